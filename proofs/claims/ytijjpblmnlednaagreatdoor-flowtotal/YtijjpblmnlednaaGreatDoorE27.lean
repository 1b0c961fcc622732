/-
  What 'Hands' of the program and of the reference answers.
-/
import Derived.Test.YtijjpblmnlednaaGreatDoorRows
import Derived.ProofKit
import Derived.OpenShut
import Derived.Below
import Derived.BigQuiet
import Derived.OwnWalk
import Derived.Deep.QuietTactic
import Derived.WalkKit
namespace Go.Proofs.YtijjpblmnlednaaGreatDoor
open Go.RowKit
/-- How many hands of so many cards: a product. -/
def hP (D : Nat) : Nat → Nat
  | 0 => 1
  | n + 1 => hP D n * (D - n)

theorem hP_succ (D n : Nat) : hP D (n + 1) = hP D n * (D - n) := rfl

theorem hP_le {D : Nat} (h : D ≤ 64) : ∀ n, hP D n ≤ 64 ^ n := by
  intro n
  induction n with
  | zero => simp [hP]
  | succ n ih => rw [hP_succ, Nat.pow_succ]; exact Nat.mul_le_mul ih (by omega)

theorem hP_pos {D : Nat} : ∀ n, n ≤ D → 0 < hP D n := by
  intro n
  induction n with
  | zero => simp [hP]
  | succ n ih => intro h; rw [hP_succ]; exact Nat.mul_pos (ih (by omega)) (by omega)

theorem hP_big {D n : Nat} (h : D ≤ 64) (hn : n ≤ 8) : hP D n ≤ 281474976710656 :=
  Nat.le_trans (hP_le h n) (Nat.le_trans (Nat.pow_le_pow_right (by decide) hn) (by decide))

/-- Numbers that may be asked for: a deck of cards, a hand that is not greater. -/
structure HLow (D n : Nat) : Prop where
  d0 : 1 ≤ D
  d1 : D ≤ 64
  n0 : 1 ≤ n
  n1 : n ≤ 8
  nd : n ≤ D
/-- And not too many hands. -/
structure HGood (D n : Nat) : Prop extends HLow D n where
  few : hP D n ≤ 1099511627776

/-- What Hands refuses, as a number. -/
def refH (deck n : Int) : Int :=
  if deck < 1 ∨ 64 < deck ∨ n < 1 ∨ 8 < n then 1 else if deck < n then 8 else if 1099511627776 < hP deck.toNat n.toNat then 10 else 0

theorem hgood_of {deck n : Int} (h : refH deck n = 0) : ∃ D m : Nat, deck = D ∧ n = m ∧ HGood D m := by
  unfold refH at h
  split at h
  · simp at h
  rename_i h1
  split at h
  · simp at h
  rename_i h2
  split at h
  · simp at h
  rename_i h3
  exact ⟨deck.toNat, n.toNat, by omega, by omega, ⟨⟨by omega, by omega, by omega, by omega, by omega⟩, by omega⟩⟩
theorem HGood.ref {D n : Nat} (h : HGood D n) : refH D n = 0 := by
  obtain ⟨⟨h1, h2, h3, h4, h5⟩, h6⟩ := h
  unfold refH
  rw [if_neg (by omega), if_neg (by omega)]
  simp
  omega
theorem HGood.less {D n : Nat} (h : HGood D (n + 1)) (hn : 0 < n) : HGood D n := by
  obtain ⟨⟨h1, h2, h3, h4, h5⟩, h6⟩ := h
  refine ⟨⟨h1, h2, by omega, by omega, by omega⟩, ?_⟩
  rw [hP_succ] at h6
  have : hP D n * 1 ≤ hP D n * (D - n) := Nat.mul_le_mul_left _ (by omega)
  omega

theorem hP_step {D n k : Nat} (h : HLow D n) (hk : k < n) : ((hP D k : Int) * ((D : Int) - (k : Int))) = (hP D (k + 1) : Nat) ∧ (0 ≤ (hP D k : Int) * ((D : Int) - (k : Int))) ∧ ((hP D k : Int) * ((D : Int) - (k : Int)) ≤ 281474976710656) := by
  have e : ((D : Int) - (k : Int)) = ((D - k : Nat) : Int) := by have := h.nd; omega
  have e2 : ((hP D k : Int) * ((D : Int) - (k : Int))) = (hP D (k + 1) : Nat) := by rw [e, hP_succ, Int.natCast_mul]
  have := hP_big h.d1 (n := k + 1) (by have := h.n1; omega)
  rw [e2]
  exact ⟨rfl, by omega, by omega⟩

theorem hands_low (D n : Nat) (w : World) (h : HLow D n) : Calls Tryz.prog 63 #[.int .i64 D, .int .i64 n] w fun e w' =>
    e = .returned (if 1099511627776 < hP D n then .tuple #[.int .u64 0, .int .i64 10] else .tuple #[.int .u64 (hP D n), .int .i64 0]) ∧ w' = w := by
  have hd0 := h.d0
  have hd1 := h.d1
  have hn0 := h.n0
  have hn1 := h.n1
  have hnd := h.nd
  go_enter Tryz.func63, Tryz.ntmps63
  go_wp2
  go_loop [6, 26] (fun s i => ∃ k : Nat, k ≤ n ∧ i = .int .i64 k ∧ s = .int .u64 (hP D k)) (fun _ i => n - (intOf i).toNat)
  case atStart => exact ⟨0, Nat.zero_le _, rfl, rfl⟩
  case round =>
    obtain ⟨k, hk, rfl, rfl⟩ := hrel
    by_cases hlt : k < n
    · obtain ⟨e1, e2, e3⟩ := hP_step h hlt
      have E : Hid (((hP D k : Int) * ((D : Int) - (k : Int))) = (hP D (k + 1) : Nat)) := e1
      have hp := hP_big h.d1 (n := k) (by omega)
      clear e1 h
      go_wp2
      go_round
      case rel => exact ⟨k + 1, by omega, by go_num, by rw [← E.out]⟩
      case measure => simp [intOf]; omega
    · obtain rfl : k = n := by omega
      have hp := hP_big h.d1 (n := k) (by omega)
      by_cases t : 1099511627776 < hP D k
      · have t' : (1099511627776 : Int) < (hP D k : Int) := by omega
        clear h
        go_wp2
        go_ret2
        exact ⟨rfl, rfl⟩
      · have t' : ¬ (1099511627776 : Int) < (hP D k : Int) := by omega
        clear h
        go_wp2
        go_ret2
        exact ⟨rfl, rfl⟩

theorem hands_yes (D n : Nat) (w : World) (h : HGood D n) : Calls Tryz.prog 63 #[.int .i64 D, .int .i64 n] w fun e w' => e = .returned (.tuple #[.int .u64 (hP D n), .int .i64 0]) ∧ w' = w := by
  refine (hands_low D n w h.toHLow).mono ?_
  rintro e w' ⟨rfl, rfl⟩
  have := h.few
  rw [if_neg (by omega)]
  exact ⟨rfl, rfl⟩

theorem hands_no (deck n : Int) (w : World) (h : (refH deck n == 0) = false) : Calls Tryz.prog 63 #[.int .i64 deck, .int .i64 n] w fun e w' => e = .returned (.tuple #[.int .u64 0, .int .i64 (refH deck n)]) ∧ w' = w := by
  by_cases t1 : deck < 1
  · have e : refH deck n = 1 := by simp [refH, t1]
    rw [e]; clear e h
    go_enter Tryz.func63, Tryz.ntmps63
    go_wp2
    go_ret2; exact ⟨rfl, rfl⟩
  by_cases t2 : 64 < deck
  · have e : refH deck n = 1 := by simp [refH, t2]
    rw [e]; clear e h
    go_enter Tryz.func63, Tryz.ntmps63
    go_wp2
    go_ret2; exact ⟨rfl, rfl⟩
  by_cases t3 : n < 1
  · have e : refH deck n = 1 := by simp [refH, t3]
    rw [e]; clear e h
    go_enter Tryz.func63, Tryz.ntmps63
    go_wp2
    go_ret2; exact ⟨rfl, rfl⟩
  by_cases t4 : 8 < n
  · have e : refH deck n = 1 := by simp [refH, t4]
    rw [e]; clear e h
    go_enter Tryz.func63, Tryz.ntmps63
    go_wp2
    go_ret2; exact ⟨rfl, rfl⟩
  by_cases t5 : deck < n
  · have e : refH deck n = 8 := by unfold refH; rw [if_neg (by omega), if_pos t5]
    rw [e]; clear e h
    go_enter Tryz.func63, Tryz.ntmps63
    go_wp2
    go_ret2; exact ⟨rfl, rfl⟩
  obtain ⟨D, rfl⟩ : ∃ D : Nat, deck = D := ⟨deck.toNat, by omega⟩
  obtain ⟨m, rfl⟩ : ∃ m : Nat, n = m := ⟨n.toNat, by omega⟩
  by_cases t6 : 1099511627776 < hP D m
  · have e : refH D m = 10 := by unfold refH; rw [if_neg (by omega), if_neg (by omega), Int.toNat_natCast, Int.toNat_natCast, if_pos t6]
    rw [e]
    refine (hands_low D m w ⟨by omega, by omega, by omega, by omega, by omega⟩).mono ?_
    rintro e w' ⟨rfl, rfl⟩
    rw [if_pos t6]
    exact ⟨rfl, rfl⟩
  · have e : refH D m = 0 := by unfold refH; rw [if_neg (by omega), if_neg (by omega), Int.toNat_natCast, Int.toNat_natCast, if_neg t6]
    rw [e] at h
    cases h
end Go.Proofs.YtijjpblmnlednaaGreatDoor
