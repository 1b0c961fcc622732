/-
  What 'Split' of the program answers, for every total and all shares; what 'Same' answers for any two lists; and that the fixed answer of the statements ('awake') is met. Conditions: the lists lie in memory.
-/
import Derived.Test.YtcombbkhdnipkaaBWalkB
namespace Go.Proofs.Ytcombbkhdnipkaa.Bo
open Go.RowKit

theorem split_no (total : Int) (a : Option Addr) (n cap : Nat) (f : Nat → Int) (w : World) (hr : Row w a n f) (h : (refI total n f == 0) = false) :
    Calls Try.prog 17 #[.int .i64 total, .slice a n cap] w fun e w' => e = .returned (.tuple #[.slice none 0 0, .int .i64 (refI total n f)]) ∧ w' = w := by
  have h' : (refI total n f != 0) = true := by simpa using h
  go_enter Try.func17, Try.ntmps17
  go_wp2_with (go_at_call 24; refine (refusal_any _ _ _ _ f _ hr).mono ?_; rintro e w' ⟨rfl, hw⟩; obtain rfl := hw.symm)
  go_ret2
  exact ⟨rfl, rfl⟩

set_option maxHeartbeats 400000 in
theorem split_yes (total : Int) (a : Option Addr) (n cap : Nat) (f : Nat → Int) (w : World) (hr : Row w a n f) (hf : Fits total n f) :
    Calls Try.prog 17 #[.int .i64 total, .slice a n cap] w fun e w' => ∃ b, e = .returned (.tuple #[.slice (some ⟨b, 0, none⟩) n n, .int .i64 0]) ∧ w.heap.size ≤ b ∧
      Own w' b n (part total n f) ∧ Below w.heap.size w w' := by
  have h0 := hf.none
  have hov := hf.over
  have hlen := hf.len
  have hpos := hf.pos
  obtain ⟨hv1, hv2⟩ := hov
  have hsum := (le_sumTo n (fun k hk => (hf.quo k hk).1)).1
  have hlo := hf.lo
  have hhi := hf.hi
  have hover : over total n f = total - sumTo (quo total n f) n := rfl
  rw [hover] at hv1 hv2
  clear hover
  go_enter Try.func17, Try.ntmps17
  go_wp2_with (first
    | (go_at_call 24; refine (refusal_any _ _ _ _ f _ hr).mono ?_; rintro e w' ⟨rfl, hw⟩; obtain rfl := hw.symm)
    | (go_at_call 25; refine (quotas_any _ _ _ _ f _ hr hf).mono ?_; rintro e w1 ⟨b, c, rfl, hb, hc, hbc, o1, o2, hbel⟩)
    | (go_at_call 26; refine (sum_any _ _ _ _ _ o1.row (by omega) (fun k hk => ⟨(hf.quo k hk).1, by have := (hf.quo k hk).2; omega⟩)).mono ?_; rintro e w' ⟨rfl, hw⟩; obtain rfl := hw.symm))
  clear h0 hr
  go_loopw [26] (fun i wr => ∃ k : Nat, (k : Int) ≤ total - sumTo (quo total n f) n ∧ i = .int .i64 k ∧ Own wr b n (hand 0 n (quo total n f) (rem total n f) k).1 ∧ Own wr c n (hand 0 n (quo total n f) (rem total n f) k).2 ∧ Below w.heap.size w wr)
    (fun i _ => (total - sumTo (quo total n f) n).toNat - (intOf i).toNat)
  case atStart => exact ⟨0, hv1, rfl, o1, o2, hbel⟩
  case round =>
    obtain ⟨k, hk, rfl, p1, p2, p3⟩ := hrel
    by_cases hlt : (k : Int) < total - sumTo (quo total n f) n
    · have hi := arg_lt (hand 0 n (quo total n f) (rem total n f) k).2 n hpos
      have hh := hf.handed k hk _ hi
      have r1 := (p1.store _ ((hand 0 n (quo total n f) (rem total n f) k).1 (arg (hand 0 n (quo total n f) (rem total n f) k).2 n) + 1) hi).other hbc.symm (arg (hand 0 n (quo total n f) (rem total n f) k).2 n) (.int .i64 0)
      have r2 := (p2.other hbc (arg (hand 0 n (quo total n f) (rem total n f) k).2 n) (.int .i64 ((hand 0 n (quo total n f) (rem total n f) k).1 (arg (hand 0 n (quo total n f) (rem total n f) k).2 n) + 1))).store _ 0 hi
      have r3 := (p3.setCell (p := ⟨b, arg (hand 0 n (quo total n f) (rem total n f) k).2 n, none⟩) hb (.int .i64 ((hand 0 n (quo total n f) (rem total n f) k).1 (arg (hand 0 n (quo total n f) (rem total n f) k).2 n) + 1))).setCell (p := ⟨c, arg (hand 0 n (quo total n f) (rem total n f) k).2 n, none⟩) hc (.int .i64 0)
      have R : Hid (_ ∧ _ ∧ _) := ⟨r1, r2, r3⟩
      have hrow := p2.row
      obtain ⟨c1, f1⟩ := p1.2 _ hi
      obtain ⟨c2, f2⟩ := p2.2 _ hi
      obtain ⟨hh1, hh2⟩ := hh
      clear r1 r2 r3 p1 p2 p3 hf o1 o2
      go_wp2_with (go_at_call 27; refine (greatest_any _ _ _ _ _ hrow (by omega)).mono ?_; rintro e w' ⟨rfl, hw⟩; obtain rfl := hw.symm)
      go_roundw
      case rel => exact ⟨k + 1, by omega, by go_num, R.out⟩
      case measure => simp [intOf]; omega
    · have ek : (over total n f).toNat = k := by unfold over; omega
      have q1 : Own wr b n (part total n f) := by unfold part; rw [ek]; exact p1
      clear p1 p2 hf o1 o2
      go_wp2
      go_ret2
      exact ⟨_, rfl, hb, q1, p3⟩

end Go.Proofs.Ytcombbkhdnipkaa.Bo
