/-
  The walk of 'BorrowLent'. Conditions: the lists lie in memory.
-/
import Derived.Test.YtcombbkhdnipkaaAw
namespace Go.Proofs.Ytcombbkhdnipkaa
open Go.RowKit

set_option maxRecDepth 20000 in
set_option maxHeartbeats 4000000 in
theorem lent_law (a b : Option Addr) (n m c1 c2 : Nat) (G : Nat → Bd) (f : Nat → Int) (w : World) (hb : BdR w a n G) (hd : Row w b m f) :
    Calls Try.prog 5 #[.slice a n c1, .slice b m c2] w fun e w' => e = .returned (.bool true) ∧ Below w.heap.size w w' := by
  have I := awake_ok w
  by_cases t1 : (64 : Int) < (n : Int)
  · clear hb hd
    go_enter Try.func5, Try.ntmps5
    go_wp2_with (go_at_call 7; refine I.mono ?_; rintro e w1 ⟨rfl, b1⟩)
    go_ret
    exact ⟨rfl, b1⟩
  by_cases t2 : (64 : Int) < (m : Int)
  · clear hb hd
    go_enter Try.func5, Try.ntmps5
    go_wp2_with (go_at_call 7; refine I.mono ?_; rintro e w1 ⟨rfl, b1⟩)
    go_ret
    exact ⟨rfl, b1⟩
  have HB : Hd (BdR w a n G) := ⟨hb⟩
  have HD : Hd (Row w b m f) := ⟨hd⟩
  clear hb hd
  go_enter Try.func5, Try.ntmps5
  go_wp2_with (go_at_call 7; refine I.mono ?_; rintro e w1 ⟨rfl, b1⟩)
  clear I
  go_loopw [5, 6, 7] (fun s t i wr => ∃ k : Nat, k ≤ min n m ∧ i = .int .i64 k ∧ s = .int .i64 (sumTo (lentF (noms G) f) k) ∧ t = .int .i64 (sumTo (borF (noms G) f) k) ∧ Hd (∀ j, j < k → (0 ≤ noms G j ∧ noms G j ≤ 4096) ∧ 0 ≤ f j ∧ f j ≤ 4096) ∧ Below w.heap.size w wr) (fun _ _ i _ => min n m - (intOf i).toNat)
  case atStart => exact ⟨0, Nat.zero_le _, rfl, rfl, rfl, ⟨fun j hj => absurd hj (Nat.not_lt_zero _)⟩, b1⟩
  case round =>
    clear b1
    obtain ⟨k, hk, rfl, rfl, rfl, hall, p3⟩ := hrel
    obtain ⟨⟨s1, s2⟩, s3, s4⟩ := lent_le hall.out (Nat.le_refl k) (by omega)
    by_cases hlt : k < min n m
    · obtain ⟨b1, o1, rfl, hb1, hc1⟩ := HB.out (by omega)
      obtain ⟨b2, o2, rfl, hb2, hc2⟩ := HD.out (by omega)
      have d1 : wr.cell? ⟨b1, o1 + k * 3, none⟩ = some (.int .i64 (noms G k)) := (p3.cell (p := ⟨b1, o1 + k * 3, none⟩) hb1).trans (hc1 k (by omega)).1
      have d2 := (p3.cell (p := ⟨b2, o2 + k, none⟩) hb2).trans (hc2 k (by omega))
      have j1 : (k : Int) < (n : Int) := by omega
      have j2 : (k : Int) < (m : Int) := by omega
      have e1 : Hd (sumTo (lentF (noms G) f) (k + 1) = sumTo (lentF (noms G) f) k + (max (noms G k) (f k) - f k)) := ⟨by
        show _ + lentF (noms G) f k = _
        have : lentF (noms G) f k = max (noms G k) (f k) - f k := by unfold lentF; split <;> omega
        omega⟩
      have e2 : Hd (sumTo (borF (noms G) f) (k + 1) = sumTo (borF (noms G) f) k + (max (noms G k) (f k) - noms G k)) := ⟨by
        show _ + borF (noms G) f k = _
        have : borF (noms G) f k = max (noms G k) (f k) - noms G k := by unfold borF; split <;> omega
        omega⟩
      have P : Hd (Below w.heap.size w wr) := ⟨p3⟩
      have A : Hd (((0 ≤ noms G k ∧ noms G k ≤ 4096) ∧ 0 ≤ f k ∧ f k ≤ 4096) → ∀ j, j < k + 1 → (0 ≤ noms G j ∧ noms G j ≤ 4096) ∧ 0 ≤ f j ∧ f j ≤ 4096) := ⟨fun c j hj => by
        rcases Nat.lt_or_eq_of_le (Nat.le_of_lt_succ hj) with h | rfl
        · exact hall.out j h
        · exact c⟩
      clear hc1 hc2 p3 hall
      by_cases v1 : noms G k < 0
      · clear A e1 e2
        generalize noms G k = y at *
        generalize f k = x at *
        go_wp2_with fail
        go_ret
        exact ⟨rfl, P.out⟩
      by_cases v2 : 4096 < noms G k
      · clear A e1 e2
        generalize noms G k = y at *
        generalize f k = x at *
        go_wp2_with fail
        go_ret
        exact ⟨rfl, P.out⟩
      by_cases v3 : f k < 0
      · clear A e1 e2
        generalize noms G k = y at *
        generalize f k = x at *
        go_wp2_with fail
        go_ret
        exact ⟨rfl, P.out⟩
      by_cases v4 : 4096 < f k
      · clear A e1 e2
        generalize noms G k = y at *
        generalize f k = x at *
        go_wp2_with fail
        go_ret
        exact ⟨rfl, P.out⟩
      have HA : Hd (∀ j, j < k + 1 → (0 ≤ noms G j ∧ noms G j ≤ 4096) ∧ 0 ≤ f j ∧ f j ≤ 4096) := ⟨A.out (by omega)⟩
      clear A
      generalize noms G k = y at *
      generalize f k = x at *
      go_upto_region 11 with fail
      go_quiet (fail)
      go_upto_region 12 with fail
      go_quiet (fail)
      go_wp2_with fail
      go_roundw
      case rel => exact ⟨k + 1, by omega, by go_num, by rw [e1.out], by rw [e2.out], HA, ⟨P.out.os, P.out.tape, P.out.output, P.out.size, P.out.block⟩⟩
      case measure => simp [intOf]; omega
    · obtain rfl : k = min n m := by omega
      have L := lent_ok a b n m c1 c2 G f wr (HB.out.carry p3) (HD.out.carry p3) (by omega) (by omega) hall.out
      have P : Hd (Below w.heap.size w wr) := ⟨p3⟩
      clear hall HB HD p3
      generalize sumTo (lentF (noms G) f) (min n m) = z1 at *
      generalize sumTo (borF (noms G) f) (min n m) = z2 at *
      by_cases q : ((min n m : Nat) : Int) < (n : Int)
      · have q2 : ¬ ((min n m : Nat) : Int) < (m : Int) := by omega
        clear hlt hk
        go_wp2_with fail
        go_at_call 12
        refine L.mono ?_
        rintro e w2 ⟨rfl, b2⟩
        go_wp2_with fail
        go_ret
        exact ⟨rfl, P.out.trans (b2.mono P.out.size)⟩
      · clear hlt hk
        go_wp2_with fail
        go_at_call 12
        refine L.mono ?_
        rintro e w2 ⟨rfl, b2⟩
        go_wp2_with fail
        go_ret
        exact ⟨rfl, P.out.trans (b2.mono P.out.size)⟩
end Go.Proofs.Ytcombbkhdnipkaa
