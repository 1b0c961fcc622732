/-
  How many wait, how many seats, and whether lanes are small, by the program and by the reference. Conditions: the lanes lie in memory, and are few.
-/
import Derived.Test.YtemmkkcfjhmomabFm
namespace Go.Proofs.Ytemmkkcfjhmomab
open Go.RowKit

set_option maxHeartbeats 400000 in
theorem within_ok (n m : Int) (w : World) : Calls Try.prog 22 #[.int .i64 n, .int .i64 m] w fun e w' => e = .returned (.bool (decide (1 ≤ n ∧ n ≤ m))) ∧ w' = w := by
  by_cases h1 : 1 ≤ n
  · by_cases h2 : n ≤ m
    · have e : Hd (decide (1 ≤ n ∧ n ≤ m) = true) := ⟨decide_eq_true ⟨h1, h2⟩⟩
      generalize decide (1 ≤ n ∧ n ≤ m) = b at *
      go_enter Try.func22, Try.ntmps22
      go_wp2
      go_ret
      exact ⟨by rw [e.out]; rfl, rfl⟩
    · have e : Hd (decide (1 ≤ n ∧ n ≤ m) = false) := ⟨decide_eq_false (fun h => h2 h.2)⟩
      generalize decide (1 ≤ n ∧ n ≤ m) = b at *
      go_enter Try.func22, Try.ntmps22
      go_wp2
      go_ret
      exact ⟨by rw [e.out]; rfl, rfl⟩
  · have e : Hd (decide (1 ≤ n ∧ n ≤ m) = false) := ⟨decide_eq_false (fun h => h1 h.1)⟩
    generalize decide (1 ≤ n ∧ n ≤ m) = b at *
    go_enter Try.func22, Try.ntmps22
    go_wp2
    go_ret
    exact ⟨by rw [e.out]; rfl, rfl⟩

set_option maxRecDepth 20000 in
set_option maxHeartbeats 1000000 in
theorem waiting_ok (r g nn o : Int) (a : Option Addr) (c : Nat) (F : List Ln) (w : World) (h : LsR w a c F) (hf : Few F) :
    Calls Try.prog 6 #[.agg #[.int .u64 r, .int .i64 g, .int .i64 nn, .int .i64 o, .slice a F.length c]] w fun e w' => e = .returned (.int .i64 (wtT F F.length)) ∧ Below w.heap.size w w' := by
  obtain ⟨w1, hw1⟩ : ∃ w1, w1 = w.alloc (.cells #[.int .u64 r, .int .i64 g, .int .i64 nn, .int .i64 o, .slice a F.length c] 25) := ⟨_, rfl⟩
  have B : Below w.heap.size w w1 := by rw [hw1]; exact alloc_below _ _
  have N1 : Blk w1 w.heap.size 25 (faA r g nn o (.slice a F.length c)) := by rw [hw1]; exact Blk.new _ _ _
  obtain ⟨⟨c0, c1, c2, c3, c4⟩, -⟩ := N1.fair
  have H : Hd (LsR w1 a c F ∧ Below w.heap.size w w1) := ⟨h.carry B, B⟩
  have HF : Hd (Few F) := ⟨hf⟩
  have hl := hf.len
  obtain ⟨n, hn⟩ : ∃ n, F.length = n := ⟨_, rfl⟩
  have HL : Hd (F.length = n) := ⟨hn⟩
  rw [hn] at hl c4 hw1 ⊢
  clear hn N1 B h hf
  go_enter Try.func6, Try.ntmps6
  go_upto_region 1 with fail
  rw [← hw1]
  clear hw1
  go_wp2
  clear c0 c1 c2 c3 c4
  go_loopw [3, 9] (fun v i wr => ∃ k : Nat, k ≤ n ∧ v = .int .i64 (wtT F k) ∧ i = .int .i64 k ∧ Below w1.heap.size w1 wr) (fun _ i _ => n - (intOf i).toNat)
  case atStart => exact ⟨0, Nat.zero_le _, rfl, rfl, Below.refl _ _⟩
  case round =>
    obtain ⟨k, hk, rfl, rfl, p3⟩ := hrel
    by_cases hlt : k < n
    · obtain ⟨b1, o1, a1, c1, rfl, hb1, d0, d1, s1⟩ := (H.out.1.carry p3).at (k := k) (by rw [HL.out]; exact hlt)
      have l1 := wtT_lo F k
      have l2 := wtT_hi HF.out k
      have P : Hd (Below w1.heap.size w1 wr) := ⟨p3⟩
      have HK := (HF.out.at k).2
      have HE : Hd (wtT F (k + 1) = wtT F k + ((gl F k).L.length : Nat)) := ⟨rfl⟩
      clear p3 s1
      generalize wtT F k = y at *
      generalize (gl F k).L.length = m at *
      generalize (gl F k).s = z at *
      go_wp2
      go_roundw
      case rel => exact ⟨k + 1, by omega, by rw [HE.out], by go_num, P.out.alloc P.out.size _⟩
      case measure => simp [intOf]; omega
    · obtain rfl : k = n := by omega
      go_wp2
      go_ret
      exact ⟨rfl, H.out.2.trans (p3.mono H.out.2.size)⟩

set_option maxRecDepth 20000 in
set_option maxHeartbeats 1000000 in
theorem seatsF_ok (r g nn o : Int) (a : Option Addr) (c : Nat) (F : List Ln) (w : World) (h : LsR w a c F) (hf : Few F) :
    Calls Try.prog 11 #[.agg #[.int .u64 r, .int .i64 g, .int .i64 nn, .int .i64 o, .slice a F.length c]] w fun e w' => e = .returned (.int .i64 (stT F F.length)) ∧ Below w.heap.size w w' := by
  obtain ⟨w1, hw1⟩ : ∃ w1, w1 = w.alloc (.cells #[.int .u64 r, .int .i64 g, .int .i64 nn, .int .i64 o, .slice a F.length c] 25) := ⟨_, rfl⟩
  have B : Below w.heap.size w w1 := by rw [hw1]; exact alloc_below _ _
  have N1 : Blk w1 w.heap.size 25 (faA r g nn o (.slice a F.length c)) := by rw [hw1]; exact Blk.new _ _ _
  obtain ⟨⟨c0, c1, c2, c3, c4⟩, -⟩ := N1.fair
  have H : Hd (LsR w1 a c F ∧ Below w.heap.size w w1) := ⟨h.carry B, B⟩
  have HF : Hd (Few F) := ⟨hf⟩
  have hl := hf.len
  obtain ⟨n, hn⟩ : ∃ n, F.length = n := ⟨_, rfl⟩
  have HL : Hd (F.length = n) := ⟨hn⟩
  rw [hn] at hl c4 hw1 ⊢
  clear hn N1 B h hf
  go_enter Try.func11, Try.ntmps11
  go_upto_region 1 with fail
  rw [← hw1]
  clear hw1
  go_wp2
  clear c0 c1 c2 c3 c4
  go_loopw [3, 9] (fun v i wr => ∃ k : Nat, k ≤ n ∧ v = .int .i64 (stT F k) ∧ i = .int .i64 k ∧ Below w1.heap.size w1 wr) (fun _ i _ => n - (intOf i).toNat)
  case atStart => exact ⟨0, Nat.zero_le _, rfl, rfl, Below.refl _ _⟩
  case round =>
    obtain ⟨k, hk, rfl, rfl, p3⟩ := hrel
    by_cases hlt : k < n
    · obtain ⟨b1, o1, a1, c1, rfl, hb1, d0, d1, s1⟩ := (H.out.1.carry p3).at (k := k) (by rw [HL.out]; exact hlt)
      have l1 := stT_lo F k
      have l2 := stT_hi HF.out k
      have P : Hd (Below w1.heap.size w1 wr) := ⟨p3⟩
      have HK := (HF.out.at k).2
      have l3 := sW_lo (gl F k)
      have l4 := sW_hi HK
      have HE : Hd (stT F (k + 1) = stT F k + sW (gl F k)) := ⟨rfl⟩
      have W : Hd (∀ W, Below wr.heap.size wr W → Calls Try.prog 21 #[.agg #[.int .u64 (gl F k).s, .slice a1 (gl F k).L.length c1]] W fun e w' => e = .returned (.int .i64 (sW (gl F k))) ∧ Below W.heap.size W w') := ⟨fun W q => seats_ok _ _ _ _ W (s1.carry q).2.2 (by omega)⟩
      have BW : Hd (∀ cs, Below wr.heap.size wr (wr.alloc (.cells cs 38))) := ⟨fun cs => alloc_below _ _⟩
      clear p3 s1 HK
      generalize sW (gl F k) = x at *
      generalize stT F k = y at *
      generalize (gl F k).L.length = m at *
      generalize (gl F k).s = z at *
      go_wp2_with (go_at_call 21; refine (W.out _ (BW.out _)).mono ?_; rintro e w4 ⟨rfl, b4⟩)
      go_roundw
      case rel => exact ⟨k + 1, by omega, by rw [HE.out], by go_num, (P.out.alloc P.out.size _).trans (b4.mono (P.out.alloc P.out.size _).size)⟩
      case measure => simp [intOf]; omega
    · obtain rfl : k = n := by omega
      go_wp2
      go_ret
      exact ⟨rfl, H.out.2.trans (p3.mono H.out.2.size)⟩

end Go.Proofs.Ytemmkkcfjhmomab
