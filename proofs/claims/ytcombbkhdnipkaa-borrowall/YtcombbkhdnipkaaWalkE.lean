/-
  What 'Spread' of the reference answers where something is refused: what the program answers. Conditions: the lists lie in memory.
-/
import Derived.Test.YtcombbkhdnipkaaWalkD
namespace Go.Proofs.Ytcombbkhdnipkaa
open Go.RowKit

/-- One of the five tests of the reference strikes. -/
def Bad (l h u : Int) : Prop := l < 0 ∨ (0 ≤ l ∧ h < l) ∨ (0 ≤ l ∧ l ≤ h ∧ 4096 < h) ∨ (0 ≤ l ∧ l ≤ h ∧ h ≤ 4096 ∧ u < 0) ∨ (0 ≤ l ∧ l ≤ h ∧ h ≤ 4096 ∧ 0 ≤ u ∧ 1048576 < u)
theorem bad_of {l h u : Int} (c : ¬ Ok l h u) : Bad l h u := by unfold Ok at c; unfold Bad; omega

set_option maxRecDepth 20000 in
set_option maxHeartbeats 2000000 in
theorem ref_no (total : Int) (a b d : Option Addr) (n m l c1 c2 c3 : Nat) (lo hi want : Nat → Int) (w : World) (r1 : Row w a n lo) (r2 : Row w b m hi) (r3 : Row w d l want) (h : (refI total n m l lo hi want == 0) = false) :
    Calls Try.prog 16 #[.int .i64 total, .slice a n c1, .slice b m c2, .slice d l c3] w fun e w' => e = .returned (.tuple #[.slice none 0 0, .int .i64 (refI total n m l lo hi want)]) ∧ Below w.heap.size w w' := by
  have H0 : Hid (refI total n m l lo hi want ≠ 0) := by show _ ≠ _; simpa using h
  clear h
  by_cases t1 : total < 0
  · have e : refI total n m l lo hi want = 1 := by simp [refI, t1]
    rw [e]; clear e H0
    go_enter Try.func16, Try.ntmps16
    go_wp2
    go_ret2; exact ⟨rfl, Below.refl _ _⟩
  by_cases t2 : 4096 < total
  · have e : refI total n m l lo hi want = 1 := by simp [refI, t2]
    rw [e]; clear e H0
    go_enter Try.func16, Try.ntmps16
    go_wp2
    go_ret2; exact ⟨rfl, Below.refl _ _⟩
  have e0 : ¬ (total < 0 ∨ 4096 < total) := by omega
  by_cases t3 : n = m
  case neg =>
    have e : refI total n m l lo hi want = 2 := by unfold refI; rw [if_neg e0, if_pos (.inl t3)]
    rw [e]; clear e H0
    have t3' : ((n : Int) != (m : Int)) = true := by simp; omega
    go_enter Try.func16, Try.ntmps16
    go_wp2
    go_ret2; exact ⟨rfl, Below.refl _ _⟩
  subst t3
  by_cases t4 : n = l
  case neg =>
    have e : refI total n n l lo hi want = 2 := by unfold refI; rw [if_neg e0, if_pos (.inr t4)]
    rw [e]; clear e H0
    have t4' : ((n : Int) != (l : Int)) = true := by simp; omega
    go_enter Try.func16, Try.ntmps16
    go_wp2
    go_ret2; exact ⟨rfl, Below.refl _ _⟩
  subst t4
  by_cases t5 : 16 < n
  · have e : refI total n n n lo hi want = 3 := by unfold refI; rw [if_neg e0, if_neg (by omega), if_pos t5]
    rw [e]; clear e H0
    have t5' : (16 : Int) < (n : Int) := by omega
    go_enter Try.func16, Try.ntmps16
    go_wp2
    go_ret2; exact ⟨rfl, Below.refl _ _⟩
  have E1 : Hid (refI total n n n lo hi want = if ∃ k, k < n ∧ ¬ Ok (lo k) (hi k) (want k) then 8 else if total < sumTo lo n ∨ sumTo hi n < total then 6 else 0) := by
    show _ = _
    unfold refI; rw [if_neg e0, if_neg (by omega), if_neg t5]
  have t5' : ¬ (16 : Int) < (n : Int) := by omega
  clear e0
  go_enter Try.func16, Try.ntmps16
  go_wp2
  go_loopw [10, 11, 12] (fun s t i wr => ∃ k : Nat, k ≤ n ∧ i = .int .i64 k ∧ s = .int .i64 (sumTo lo k) ∧ t = .int .i64 (sumTo hi k) ∧ Hid (∀ j, j < k → Ok (lo j) (hi j) (want j)) ∧ Below w.heap.size w wr) (fun _ _ i _ => n - (intOf i).toNat)
  case atStart => exact ⟨0, Nat.zero_le _, rfl, rfl, rfl, fun j hj => absurd hj (Nat.not_lt_zero _), Below.refl _ _⟩
  case round =>
    obtain ⟨k, hk, rfl, rfl, rfl, hall, p3⟩ := hrel
    obtain ⟨s1, s2⟩ := sumTo_le (f := lo) (M := 4096) (fun j hj => by have := hall.out j hj; unfold Ok at this; omega) k (Nat.le_refl _)
    obtain ⟨s3, s4⟩ := sumTo_le (f := hi) (M := 4096) (fun j hj => by have := hall.out j hj; unfold Ok at this; omega) k (Nat.le_refl _)
    by_cases hlt : k < n
    · obtain ⟨b1, o1, rfl, hb1, hc1⟩ := r1 (by omega)
      obtain ⟨b2, o2, rfl, hb2, hc2⟩ := r2 (by omega)
      obtain ⟨b3, o3, rfl, hb3, hc3⟩ := r3 (by omega)
      have d1 := (p3.cell (p := ⟨b1, o1 + k, none⟩) hb1).trans (hc1 k hlt)
      have d2 := (p3.cell (p := ⟨b2, o2 + k, none⟩) hb2).trans (hc2 k hlt)
      have d3 := (p3.cell (p := ⟨b3, o3 + k, none⟩) hb3).trans (hc3 k hlt)
      have hlt' : (k : Int) < (n : Int) := by omega
      clear hc1 hc2 hc3 r1 r2 r3
      by_cases c : Ok (lo k) (hi k) (want k)
      · have hall' : Hid (∀ j, j < k + 1 → Ok (lo j) (hi j) (want j)) := by
          intro j hj
          rcases Nat.lt_or_eq_of_le (Nat.le_of_lt_succ hj) with h | rfl
          · exact hall.out j h
          · exact c
        obtain ⟨v1, v2, v3, v4, v5⟩ := c
        have g1 : decide (lo k < 0) = false := by simpa using v1
        have g2 : decide (hi k < lo k) = false := by simpa using v2
        have g3 : decide (4096 < hi k) = false := by simpa using v3
        have g4 : decide (want k < 0) = false := by simpa using v4
        have g5 : decide (1048576 < want k) = false := by simpa using v5
        go_wp2
        go_quiet (fail)
        go_wp2
        go_roundw
        case rel => exact ⟨k + 1, by omega, by go_num, by simp [sumTo], by simp [sumTo], hall', ⟨p3.os, p3.tape, p3.output, p3.size, p3.block⟩⟩
        case measure => simp [intOf]; omega
      · have E : Hid (refI total n n n lo hi want = 8) := by show _ = _; rw [E1.out, if_pos ⟨k, hlt, c⟩]
        have cb := bad_of c
        clear c E1 H0 hall
        unfold Bad at cb
        rcases cb with v1 | ⟨v1, v2⟩ | ⟨v1, v2, v3⟩ | ⟨v1, v2, v3, v4⟩ | ⟨v1, v2, v3, v4, v5⟩
        · go_wp2
          go_quiet (fail)
          go_wp2
          go_ret2; exact ⟨congrArg (fun x => Ending.returned (Value.tuple #[.slice none 0 0, .int .i64 x])) E.out.symm, ⟨p3.os, p3.tape, p3.output, p3.size, p3.block⟩⟩
        · have g1 : decide (lo k < 0) = false := by simpa using v1
          go_wp2
          go_quiet (fail)
          go_wp2
          go_ret2; exact ⟨congrArg (fun x => Ending.returned (Value.tuple #[.slice none 0 0, .int .i64 x])) E.out.symm, ⟨p3.os, p3.tape, p3.output, p3.size, p3.block⟩⟩
        · have g1 : decide (lo k < 0) = false := by simpa using v1
          have g2 : decide (hi k < lo k) = false := by simpa using v2
          go_wp2
          go_quiet (fail)
          go_wp2
          go_ret2; exact ⟨congrArg (fun x => Ending.returned (Value.tuple #[.slice none 0 0, .int .i64 x])) E.out.symm, ⟨p3.os, p3.tape, p3.output, p3.size, p3.block⟩⟩
        · have g1 : decide (lo k < 0) = false := by simpa using v1
          have g2 : decide (hi k < lo k) = false := by simpa using v2
          have g3 : decide (4096 < hi k) = false := by simpa using v3
          go_wp2
          go_quiet (fail)
          go_wp2
          go_ret2; exact ⟨congrArg (fun x => Ending.returned (Value.tuple #[.slice none 0 0, .int .i64 x])) E.out.symm, ⟨p3.os, p3.tape, p3.output, p3.size, p3.block⟩⟩
        · have g1 : decide (lo k < 0) = false := by simpa using v1
          have g2 : decide (hi k < lo k) = false := by simpa using v2
          have g3 : decide (4096 < hi k) = false := by simpa using v3
          have g4 : decide (want k < 0) = false := by simpa using v4
          go_wp2
          go_quiet (fail)
          go_wp2
          go_ret2; exact ⟨congrArg (fun x => Ending.returned (Value.tuple #[.slice none 0 0, .int .i64 x])) E.out.symm, ⟨p3.os, p3.tape, p3.output, p3.size, p3.block⟩⟩
    · obtain rfl : k = n := by omega
      have E2 : Hid (refI total k k k lo hi want = if total < sumTo lo k ∨ sumTo hi k < total then 6 else 0) := by
        show _ = _
        rw [E1.out, if_neg]
        rintro ⟨j, hj, h⟩
        exact h (hall.out j hj)
      clear r1 r2 r3 E1 hall s1 s2 s3 s4
      by_cases v1 : total < sumTo lo k
      · have E : Hid (refI total k k k lo hi want = 6) := by show _ = _; rw [E2.out, if_pos (.inl v1)]
        clear E2 H0
        go_wp2
        go_ret2; exact ⟨congrArg (fun x => Ending.returned (Value.tuple #[.slice none 0 0, .int .i64 x])) E.out.symm, p3⟩
      by_cases v2 : sumTo hi k < total
      · have E : Hid (refI total k k k lo hi want = 6) := by show _ = _; rw [E2.out, if_pos (.inr v2)]
        clear E2 H0
        go_wp2
        go_ret2; exact ⟨congrArg (fun x => Ending.returned (Value.tuple #[.slice none 0 0, .int .i64 x])) E.out.symm, p3⟩
      exact absurd (by rw [E2.out, if_neg (by omega)]) H0.out
end Go.Proofs.Ytcombbkhdnipkaa
