/-
  What 'FaultEmpty' of the statements answers: true, for all arguments. Condition: errorType holds what its text lays.
-/
import Derived.Test.YtndandkanamjoaaDoorLawN
namespace Go.Proofs.YtndandkanamjoaaDoor
open Go.RowKit Go.Extern.Stop Go.Stop Go.Extern

theorem empty_of {y : ByteArray} (h : (!y.toList.isEmpty) = false) : y = ⟨#[]⟩ := by
  rw [ByteArray.toList_eq] at h
  obtain ⟨d⟩ := y
  simp at h
  simp [h]
theorem empty_no : (!(⟨#[]⟩ : ByteArray).toList.isEmpty) = false := by decide +kernel

/-- A chain around nothing that tells this line and this name. -/
structure Good (L : Int) (S : ByteArray) (ls : List Lk) : Prop where
  some : ∃ T u, val (.inr (.inr ())) ls = .iface T u
  code : codeOf (.inr (.inr ())) ls = 1
  line : (near (fun x _ => x != 0) ls).line = L
  what : (near (fun _ y => !y.toList.isEmpty) ls).what = S
theorem good_one (L : Int) (S : ByteArray) : Good L S [⟨L, S⟩] := by
  refine ⟨⟨_, _, rfl⟩, rfl, ?_, ?_⟩
  · cases h : (L != 0) with
    | true => rw [near_yes (by exact h)]
    | false => rw [near_no (by exact h)]; simp at h; exact h.symm
  · cases h : (!S.toList.isEmpty) with
    | true => rw [near_yes (by exact h)]
    | false => rw [near_no (by exact h)]; exact (empty_of h).symm
theorem Good.wrap {L : Int} {S : ByteArray} {ls : List Lk} (h : Good L S ls) : Good L S (⟨0, ⟨#[]⟩⟩ :: ls) := by
  refine ⟨⟨_, _, rfl⟩, rfl, ?_, ?_⟩
  · rw [near_no (by rfl)]; exact h.line
  · rw [near_no (by exact empty_no)]; exact h.what

set_option maxHeartbeats 4000000 in
theorem empty_all (L : Int) (S : ByteArray) (a : Option Addr) (n cap : Nat) (w : World) (he : ET w) :
    Calls Tryd.prog 6 #[.int .i64 L, .string S, .slice a n cap] w fun e w' => e = .returned (.bool true) ∧ Below w.heap.size w w' := by
  have G : ∀ ls, Good L S ls → (∀ w, ET w → Calls Tryd.prog 10 #[val (.inr (.inr ())) ls] w fun e w' => e = .returned (.int .i64 1) ∧ Below w.heap.size w w')
      ∧ (∀ w, ET w → Calls Tryd.prog 12 #[val (.inr (.inr ())) ls] w fun e w' => e = .returned (.int .i64 L) ∧ Below w.heap.size w w')
      ∧ (∀ w, ET w → Calls Tryd.prog 14 #[val (.inr (.inr ())) ls] w fun e w' => e = .returned (.string S) ∧ Below w.heap.size w w') := fun ls h =>
    ⟨fun w hw => by have := code_ok (.inr (.inr ())) ls w hw; rw [h.code] at this; exact this, fun w hw => by have := line_ok (.inr (.inr ())) ls w hw; rw [h.line] at this; exact this, fun w hw => by have := what_ok (.inr (.inr ())) ls w hw; rw [h.what] at this; exact this⟩
  obtain ⟨c10, c12, c14⟩ := G _ (good_one L S)
  simp only [val, Base.val] at c10 c12 c14
  have HG : Hd _ := ⟨G⟩
  have E0 : Hd (ET w) := ⟨he⟩
  have B0 : Hd (Below w.heap.size w w) := ⟨Below.refl _ _⟩
  clear he G
  go_enter Tryd.func6, Tryd.ntmps6
  go_wp2_with (first
    | (go_at_call 8; refine (awake_ok _ E0.out).mono ?_; rintro e w1 ⟨rfl, b1⟩; have E1 := HT E0 b1; have B1 := HB B0 b1; clear b1)
    | (go_at_call 10; refine (c10 _ E1.out).mono ?_; rintro e w2 ⟨rfl, b2⟩; have E2 := HT E1 b2; have B2 := HB B1 b2; clear b2)
    | (go_at_call 12; refine (c12 _ E2.out).mono ?_; rintro e w3 ⟨rfl, b3⟩; have E3 := HT E2 b3; have B3 := HB B2 b3; clear b3)
    | (go_at_call 14; refine (c14 _ E3.out).mono ?_; rintro e w4 ⟨rfl, b4⟩; have E4 := HT E3 b4; have B4 := HB B3 b4; clear b4)
    | (go_at_call 19; refine (unwrap_ok L S _ _).mono ?_; rintro e w5 ⟨rfl, hw5⟩; have b5 : Below w4.heap.size w4 w5 := (by rw [hw5]; exact ((Below.refl _ _).alloc (Nat.le_refl _) _).alloc (by simp) _); have E5 := HT E4 b5; have B5 := HB B4 b5; clear b5 hw5))
  clear c10 c12 c14 E0 E1 E2 E3 E4 B0 B1 B2 B3 B4
  go_loop [7, 9] (fun q i => ∃ (k : Nat) (ls : List Lk), k ≤ n ∧ k ≤ 60 ∧ i = .int .i64 k ∧ q = val (.inr (.inr ())) ls ∧ Good L S ls) (fun _ i => 60 - (intOf i).toNat)
  case atStart => exact ⟨0, [⟨L, S⟩], Nat.zero_le _, Nat.zero_le _, rfl, rfl, good_one L S⟩
  case round =>
    obtain ⟨k, ls, hkn, hk, rfl, hq, hg⟩ := hrel
    obtain ⟨T, u, hv⟩ := hg.some
    by_cases c : k < n ∧ k < 60
    · obtain ⟨c1, c2⟩ := c
      have c18 := fun w => of_ok ⟨#[]⟩ (.inr (.inr ())) ls w T u hv
      have c17 := fun w => at_ok 0 (.inr (.inr ())) (⟨0, ⟨#[]⟩⟩ :: ls) w 44 _ rfl
      rw [← hq] at c18
      have R : Hd (Good L S (⟨0, ⟨#[]⟩⟩ :: ⟨0, ⟨#[]⟩⟩ :: ls)) := ⟨hg.wrap.wrap⟩
      obtain ⟨q1, hq1⟩ : ∃ q1, q1 = val (.inr (.inr ())) (⟨0, ⟨#[]⟩⟩ :: ls) := ⟨_, rfl⟩
      obtain ⟨q2, hq2⟩ : ∃ q2, q2 = val (.inr (.inr ())) (⟨0, ⟨#[]⟩⟩ :: ⟨0, ⟨#[]⟩⟩ :: ls) := ⟨_, rfl⟩
      rw [← hq1] at c17 c18
      rw [← hq2] at c17
      have Q2 : Hd (q2 = val (.inr (.inr ())) (⟨0, ⟨#[]⟩⟩ :: ⟨0, ⟨#[]⟩⟩ :: ls)) := ⟨hq2⟩
      clear hq hv hq1 hq2 hg
      go_wp2_with (first
        | (go_at_call 18; refine (c18 _).mono ?_; rintro e w' ⟨rfl, hw⟩; obtain rfl := hw.symm)
        | (go_at_call 17; refine (c17 _).mono ?_; rintro e w' ⟨rfl, hw⟩; obtain rfl := hw.symm))
      go_round
      case rel => exact ⟨k + 1, _, by omega, by omega, by go_num, Q2.out, R.out⟩
      case measure => simp [intOf]; omega
    · obtain ⟨c10, c12, c14⟩ := HG.out ls hg
      rw [← hq] at c10 c12 c14
      clear hq hv hg
      by_cases c1 : k < n
      · have c2 : ¬ k < 60 := fun h => c ⟨c1, h⟩
        clear c
        go_wp2_with (first
          | (go_at_call 10; refine (c10 _ E5.out).mono ?_; rintro e w6 ⟨rfl, b6⟩; have E6 := HT E5 b6; have B6 := HB B5 b6; clear b6)
          | (go_at_call 12; refine (c12 _ E6.out).mono ?_; rintro e w7 ⟨rfl, b7⟩; have E7 := HT E6 b7; have B7 := HB B6 b7; clear b7)
          | (go_at_call 14; refine (c14 _ E7.out).mono ?_; rintro e w8 ⟨rfl, b8⟩; have B8 := HB B7 b8; clear b8))
        go_ret
        exact ⟨rfl, B8.out⟩
      · clear c
        go_wp2_with (first
          | (go_at_call 10; refine (c10 _ E5.out).mono ?_; rintro e w6 ⟨rfl, b6⟩; have E6 := HT E5 b6; have B6 := HB B5 b6; clear b6)
          | (go_at_call 12; refine (c12 _ E6.out).mono ?_; rintro e w7 ⟨rfl, b7⟩; have E7 := HT E6 b7; have B7 := HB B6 b7; clear b7)
          | (go_at_call 14; refine (c14 _ E7.out).mono ?_; rintro e w8 ⟨rfl, b8⟩; have B8 := HB B7 b8; clear b8))
        go_ret
        exact ⟨rfl, B8.out⟩

end Go.Proofs.YtndandkanamjoaaDoor
