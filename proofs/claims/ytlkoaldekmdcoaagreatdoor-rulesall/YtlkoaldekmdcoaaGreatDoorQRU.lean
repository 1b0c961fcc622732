/-
  What 'Hands' of the program and of the reference answers. No condition.
  What is filled, as functions. No condition.
  The mathematics of 'rules.Check': the first error, and what it is of; what is let pass; whatever order levels and schemas stand in. No condition.
-/
import Derived.Test.YtlkoaldekmdcoaaGreatDoorRows
import Derived.ProofKit
import Derived.OpenShut
import Derived.Below
import Derived.BigQuiet
import Derived.OwnWalk
import Derived.Deep.QuietTactic
import Derived.WalkKit
import Derived.Test.YtlkoaldekmdcoaaGreatDoorQMA
import Derived.Test.YtlkoaldekmdcoaaGreatDoorQPA
namespace Go.Proofs.YtlkoaldekmdcoaaGreatDoor
open Go.RowKit

/-- How many hands of so many cards: a product. -/
def hP (D : Nat) : Nat → Nat
  | 0 => 1
  | n + 1 => hP D n * (D - n)

theorem hP_succ (D n : Nat) : hP D (n + 1) = hP D n * (D - n) := rfl

theorem hP_le {D : Nat} (h : D ≤ 64) : ∀ n, hP D n ≤ 64 ^ n := by
  intro n
  induction n with
  | zero => simp [hP]
  | succ n ih => rw [hP_succ, Nat.pow_succ]; exact Nat.mul_le_mul ih (by omega)

theorem hP_big {D n : Nat} (h : D ≤ 64) (hn : n ≤ 8) : hP D n ≤ 281474976710656 :=
  Nat.le_trans (hP_le h n) (Nat.le_trans (Nat.pow_le_pow_right (by decide) hn) (by decide))

/-- Numbers that may be asked for: a deck of cards, a hand that is not greater. -/
structure HLow (D n : Nat) : Prop where
  d0 : 1 ≤ D
  d1 : D ≤ 64
  n0 : 1 ≤ n
  n1 : n ≤ 8
  nd : n ≤ D
/-- And not too many hands. -/
structure HGood (D n : Nat) : Prop extends HLow D n where
  few : hP D n ≤ 1099511627776

/-- What Hands refuses, as a number. -/
def refH (deck n : Int) : Int :=
  if deck < 1 ∨ 64 < deck ∨ n < 1 ∨ 8 < n then 1 else if deck < n then 8 else if 1099511627776 < hP deck.toNat n.toNat then 10 else 0

theorem hgood_of {deck n : Int} (h : refH deck n = 0) : ∃ D m : Nat, deck = D ∧ n = m ∧ HGood D m := by
  unfold refH at h
  split at h
  · simp at h
  rename_i h1
  split at h
  · simp at h
  rename_i h2
  split at h
  · simp at h
  rename_i h3
  exact ⟨deck.toNat, n.toNat, by omega, by omega, ⟨⟨by omega, by omega, by omega, by omega, by omega⟩, by omega⟩⟩

theorem hP_step {D n k : Nat} (h : HLow D n) (hk : k < n) : ((hP D k : Int) * ((D : Int) - (k : Int))) = (hP D (k + 1) : Nat) ∧ (0 ≤ (hP D k : Int) * ((D : Int) - (k : Int))) ∧ ((hP D k : Int) * ((D : Int) - (k : Int)) ≤ 281474976710656) := by
  have e : ((D : Int) - (k : Int)) = ((D - k : Nat) : Int) := by have := h.nd; omega
  have e2 : ((hP D k : Int) * ((D : Int) - (k : Int))) = (hP D (k + 1) : Nat) := by rw [e, hP_succ, Int.natCast_mul]
  have := hP_big h.d1 (n := k + 1) (by have := h.n1; omega)
  rw [e2]
  exact ⟨rfl, by omega, by omega⟩

theorem hands_low (D n : Nat) (w : World) (h : HLow D n) : Calls Tryz.prog 15 #[.int .i64 D, .int .i64 n] w fun e w' =>
    e = .returned (if 1099511627776 < hP D n then .tuple #[.int .u64 0, .int .i64 10] else .tuple #[.int .u64 (hP D n), .int .i64 0]) ∧ w' = w := by
  have hd0 := h.d0
  have hd1 := h.d1
  have hn0 := h.n0
  have hn1 := h.n1
  have hnd := h.nd
  go_enter Tryz.func15, Tryz.ntmps15
  go_wp2
  go_loop [6, 26] (fun s i => ∃ k : Nat, k ≤ n ∧ i = .int .i64 k ∧ s = .int .u64 (hP D k)) (fun _ i => n - (intOf i).toNat)
  case atStart => exact ⟨0, Nat.zero_le _, rfl, rfl⟩
  case round =>
    obtain ⟨k, hk, rfl, rfl⟩ := hrel
    by_cases hlt : k < n
    · obtain ⟨e1, e2, e3⟩ := hP_step h hlt
      have E : Hid (((hP D k : Int) * ((D : Int) - (k : Int))) = (hP D (k + 1) : Nat)) := e1
      have hp := hP_big h.d1 (n := k) (by omega)
      clear e1 h
      go_wp2
      go_round
      case rel => exact ⟨k + 1, by omega, by go_num, by rw [← E.out]⟩
      case measure => simp [intOf]; omega
    · obtain rfl : k = n := by omega
      have hp := hP_big h.d1 (n := k) (by omega)
      by_cases t : 1099511627776 < hP D k
      · have t' : (1099511627776 : Int) < (hP D k : Int) := by omega
        clear h
        go_wp2
        go_ret2
        exact ⟨rfl, rfl⟩
      · have t' : ¬ (1099511627776 : Int) < (hP D k : Int) := by omega
        clear h
        go_wp2
        go_ret2
        exact ⟨rfl, rfl⟩

theorem hands_yes (D n : Nat) (w : World) (h : HGood D n) : Calls Tryz.prog 15 #[.int .i64 D, .int .i64 n] w fun e w' => e = .returned (.tuple #[.int .u64 (hP D n), .int .i64 0]) ∧ w' = w := by
  refine (hands_low D n w h.toHLow).mono ?_
  rintro e w' ⟨rfl, rfl⟩
  have := h.few
  rw [if_neg (by omega)]
  exact ⟨rfl, rfl⟩

theorem hands_no (deck n : Int) (w : World) (h : (refH deck n == 0) = false) : Calls Tryz.prog 15 #[.int .i64 deck, .int .i64 n] w fun e w' => e = .returned (.tuple #[.int .u64 0, .int .i64 (refH deck n)]) ∧ w' = w := by
  by_cases t1 : deck < 1
  · have e : refH deck n = 1 := by simp [refH, t1]
    rw [e]; clear e h
    go_enter Tryz.func15, Tryz.ntmps15
    go_wp2
    go_ret2; exact ⟨rfl, rfl⟩
  by_cases t2 : 64 < deck
  · have e : refH deck n = 1 := by simp [refH, t2]
    rw [e]; clear e h
    go_enter Tryz.func15, Tryz.ntmps15
    go_wp2
    go_ret2; exact ⟨rfl, rfl⟩
  by_cases t3 : n < 1
  · have e : refH deck n = 1 := by simp [refH, t3]
    rw [e]; clear e h
    go_enter Tryz.func15, Tryz.ntmps15
    go_wp2
    go_ret2; exact ⟨rfl, rfl⟩
  by_cases t4 : 8 < n
  · have e : refH deck n = 1 := by simp [refH, t4]
    rw [e]; clear e h
    go_enter Tryz.func15, Tryz.ntmps15
    go_wp2
    go_ret2; exact ⟨rfl, rfl⟩
  by_cases t5 : deck < n
  · have e : refH deck n = 8 := by unfold refH; rw [if_neg (by omega), if_pos t5]
    rw [e]; clear e h
    go_enter Tryz.func15, Tryz.ntmps15
    go_wp2
    go_ret2; exact ⟨rfl, rfl⟩
  obtain ⟨D, rfl⟩ : ∃ D : Nat, deck = D := ⟨deck.toNat, by omega⟩
  obtain ⟨m, rfl⟩ : ∃ m : Nat, n = m := ⟨n.toNat, by omega⟩
  by_cases t6 : 1099511627776 < hP D m
  · have e : refH D m = 10 := by unfold refH; rw [if_neg (by omega), if_neg (by omega), Int.toNat_natCast, Int.toNat_natCast, if_pos t6]
    rw [e]
    refine (hands_low D m w ⟨by omega, by omega, by omega, by omega, by omega⟩).mono ?_
    rintro e w' ⟨rfl, rfl⟩
    rw [if_pos t6]
    exact ⟨rfl, rfl⟩
  · have e : refH D m = 0 := by unfold refH; rw [if_neg (by omega), if_neg (by omega), Int.toNat_natCast, Int.toNat_natCast, if_neg t6]
    rw [e] at h
    cases h

theorem rhands_low (D n : Nat) (w : World) (h : HLow D n) : Calls Tryz.prog 29 #[.int .i64 D, .int .i64 n] w fun e w' =>
    e = .returned (if 1099511627776 < hP D n then .tuple #[.int .u64 0, .int .i64 10] else .tuple #[.int .u64 (hP D n), .int .i64 0]) ∧ w' = w := by
  have hd0 := h.d0
  have hd1 := h.d1
  have hn0 := h.n0
  have hn1 := h.n1
  have hnd := h.nd
  go_enter Tryz.func29, Tryz.ntmps29
  go_wp2
  go_loop [6, 7] (fun s i => ∃ k : Nat, k ≤ n ∧ i = .int .i64 k ∧ s = .int .u64 (hP D k)) (fun _ i => n - (intOf i).toNat)
  case atStart => exact ⟨0, Nat.zero_le _, rfl, rfl⟩
  case round =>
    obtain ⟨k, hk, rfl, rfl⟩ := hrel
    by_cases hlt : k < n
    · obtain ⟨e1, e2, e3⟩ := hP_step h hlt
      have E : Hid (((hP D k : Int) * ((D : Int) - (k : Int))) = (hP D (k + 1) : Nat)) := e1
      have hp := hP_big h.d1 (n := k) (by omega)
      clear e1 h
      go_wp2
      go_round
      case rel => exact ⟨k + 1, by omega, by go_num, by rw [← E.out]⟩
      case measure => simp [intOf]; omega
    · obtain rfl : k = n := by omega
      have hp := hP_big h.d1 (n := k) (by omega)
      by_cases t : 1099511627776 < hP D k
      · have t' : (1099511627776 : Int) < (hP D k : Int) := by omega
        clear h
        go_wp2
        go_ret2
        exact ⟨rfl, rfl⟩
      · have t' : ¬ (1099511627776 : Int) < (hP D k : Int) := by omega
        clear h
        go_wp2
        go_ret2
        exact ⟨rfl, rfl⟩

theorem rhands_yes (D n : Nat) (w : World) (h : HGood D n) : Calls Tryz.prog 29 #[.int .i64 D, .int .i64 n] w fun e w' => e = .returned (.tuple #[.int .u64 (hP D n), .int .i64 0]) ∧ w' = w := by
  refine (rhands_low D n w h.toHLow).mono ?_
  rintro e w' ⟨rfl, rfl⟩
  have := h.few
  rw [if_neg (by omega)]
  exact ⟨rfl, rfl⟩

theorem rhands_no (deck n : Int) (w : World) (h : (refH deck n == 0) = false) : Calls Tryz.prog 29 #[.int .i64 deck, .int .i64 n] w fun e w' => e = .returned (.tuple #[.int .u64 0, .int .i64 (refH deck n)]) ∧ w' = w := by
  by_cases t1 : deck < 1
  · have e : refH deck n = 1 := by simp [refH, t1]
    rw [e]; clear e h
    go_enter Tryz.func29, Tryz.ntmps29
    go_wp2
    go_ret2; exact ⟨rfl, rfl⟩
  by_cases t2 : 64 < deck
  · have e : refH deck n = 1 := by simp [refH, t2]
    rw [e]; clear e h
    go_enter Tryz.func29, Tryz.ntmps29
    go_wp2
    go_ret2; exact ⟨rfl, rfl⟩
  by_cases t3 : n < 1
  · have e : refH deck n = 1 := by simp [refH, t3]
    rw [e]; clear e h
    go_enter Tryz.func29, Tryz.ntmps29
    go_wp2
    go_ret2; exact ⟨rfl, rfl⟩
  by_cases t4 : 8 < n
  · have e : refH deck n = 1 := by simp [refH, t4]
    rw [e]; clear e h
    go_enter Tryz.func29, Tryz.ntmps29
    go_wp2
    go_ret2; exact ⟨rfl, rfl⟩
  by_cases t5 : deck < n
  · have e : refH deck n = 8 := by unfold refH; rw [if_neg (by omega), if_pos t5]
    rw [e]; clear e h
    go_enter Tryz.func29, Tryz.ntmps29
    go_wp2
    go_ret2; exact ⟨rfl, rfl⟩
  obtain ⟨D, rfl⟩ : ∃ D : Nat, deck = D := ⟨deck.toNat, by omega⟩
  obtain ⟨m, rfl⟩ : ∃ m : Nat, n = m := ⟨n.toNat, by omega⟩
  by_cases t6 : 1099511627776 < hP D m
  · have e : refH D m = 10 := by unfold refH; rw [if_neg (by omega), if_neg (by omega), Int.toNat_natCast, Int.toNat_natCast, if_pos t6]
    rw [e]
    refine (rhands_low D m w ⟨by omega, by omega, by omega, by omega, by omega⟩).mono ?_
    rintro e w' ⟨rfl, rfl⟩
    rw [if_pos t6]
    exact ⟨rfl, rfl⟩
  · have e : refH D m = 0 := by unfold refH; rw [if_neg (by omega), if_neg (by omega), Int.toNat_natCast, Int.toNat_natCast, if_neg t6]
    rw [e] at h
    cases h

end Go.Proofs.YtlkoaldekmdcoaaGreatDoor

namespace Go.Proofs.YtlkoaldekmdcoaaGreatDoor

def tCatch : ByteArray := ⟨#[99, 97, 116, 99, 104, 45, 97, 108, 108]⟩
def tMasters : ByteArray := ⟨#[115, 121, 115, 116, 101, 109, 58, 109, 97, 115, 116, 101, 114, 115]⟩
def tStar : ByteArray := ⟨#[42]⟩
def orU (x u : Int) : Int := if x = 0 then u else x
def lvX : Lv := ⟨tExempt, 1, 0, 0, 0, 0, 0, 0, 0, 0⟩
def lvY : Lv := ⟨tCatch, 2, 5, 0, -1, 0, 0, 0, 0, 0⟩
def rlX : Rl := ⟨[], [tMasters], [tStar], [tStar], [tStar]⟩
def rlY : Rl := ⟨[tStar], [], [tStar], [tStar], [tStar]⟩
def scX : Sc := ⟨tExempt, tExempt, 1, 0, [rlX]⟩
def scY : Sc := ⟨tCatch, tCatch, 10000, 1, [rlY]⟩
def anyL (L : List Lv) (x : ByteArray) : Bool := L.any fun l => decide (l.name = x)
def anyS (L : List Sc) (x : ByteArray) : Bool := L.any fun l => decide (l.name = x)
def putX {α : Type} (b : Bool) (L : List α) (x : α) : List α := if b then L else L ++ [x]
def fillL (L : List Lv) : List Lv := putX (anyL L tCatch) (putX (anyL L tExempt) L lvX) lvY
def fillS (L : List Sc) : List Sc := putX (anyS L tCatch) (putX (anyS L tExempt) L scX) scY
def fillC (C : Cf) : Cf := ⟨orU C.total 100, orU C.period 10, orU C.perSeat 100, orU C.most 10, fillL C.levels, fillS C.schemas⟩

end Go.Proofs.YtlkoaldekmdcoaaGreatDoor

namespace Go.Proofs.YtlkoaldekmdcoaaGreatDoor

def lvT (x : ByteArray) : ByteArray := ⟨#[108, 101, 118, 101, 108, 32]⟩ ++ x
def scT (x : ByteArray) : ByteArray := ⟨#[115, 99, 104, 101, 109, 97, 32]⟩ ++ x
def lvFit (l : Lv) : Bool := if l.name = tExempt then l.kind == 1 else if l.name = tCatch then l.kind != 1 && l.shares != 0 else true
def lvErr (l : Lv) : Int := if l.kind = 3 ∧ refH l.queues l.hand ≠ 0 then refH l.queues l.hand else if lvFit l then 0 else 11
def isStar (L : List ByteArray) : Bool := decide (L = [tStar])
def rlAll (r : Rl) : Bool := isStar r.users && (isStar r.verbs && (isStar r.resources && isStar r.spaces))
def scFit (s : Sc) : Bool :=
  if s.name = tExempt then decide (s.level = tExempt) && s.rank == 1
  else if s.name = tCatch then decide (s.level = tCatch) && (s.rank == 10000 && s.rules.any rlAll) else true
def scErr (L : List Lv) (s : Sc) : Int := if anyL L s.level then (if scFit s then 0 else 11) else 6
/-- The first error of levels, of schemas: its number and what it is of. -/
def firstL : List Lv → Int × ByteArray
  | [] => (0, ⟨#[]⟩)
  | l :: r => if lvErr l = 0 then firstL r else (lvErr l, lvT l.name)
def firstS (L : List Lv) : List Sc → Int × ByteArray
  | [] => (0, ⟨#[]⟩)
  | s :: r => if scErr L s = 0 then firstS L r else (scErr L s, scT s.name)
def lackN (C : Cf) : ByteArray := if C.total = 0 then tTotal else if C.period = 0 then tPeriod else if C.perSeat = 0 then tSeats else ⟨#[]⟩
def lackP (C : Cf) : ByteArray :=
  if anyL C.levels tExempt then if anyL C.levels tCatch then if anyS C.schemas tExempt then if anyS C.schemas tCatch then ⟨#[]⟩ else scT tCatch else scT tExempt else lvT tCatch else lvT tExempt
/-- The first error, 0 for none, and what it is of. -/
def chk (C : Cf) : Int × ByteArray :=
  if formed C then
    if lackN C = ⟨#[]⟩ then
      if (firstL C.levels).1 = 0 then
        if (firstS C.levels C.schemas).1 = 0 then
          if lackP C = ⟨#[]⟩ then (0, ⟨#[]⟩) else (12, lackP C)
        else firstS C.levels C.schemas
      else firstL C.levels
    else (12, lackN C)
  else (2, ⟨#[]⟩)

theorem firstL_zero : ∀ {L : List Lv}, (firstL L).1 = 0 ↔ ∀ l ∈ L, lvErr l = 0
  | [] => ⟨fun _ _ h => (by cases h), fun _ => rfl⟩
  | l :: r => by
    unfold firstL
    by_cases h : lvErr l = 0
    · rw [if_pos h, firstL_zero (L := r)]
      exact ⟨fun k x hx => (List.mem_cons.1 hx).elim (fun e => e ▸ h) (fun q => k x q), fun k x hx => k x (List.mem_cons_of_mem _ hx)⟩
    · rw [if_neg h]
      exact ⟨fun k => absurd k h, fun k => k l (List.mem_cons_self ..)⟩
theorem firstS_zero {M : List Lv} : ∀ {L : List Sc}, (firstS M L).1 = 0 ↔ ∀ l ∈ L, scErr M l = 0
  | [] => ⟨fun _ _ h => (by cases h), fun _ => rfl⟩
  | l :: r => by
    unfold firstS
    by_cases h : scErr M l = 0
    · rw [if_pos h, firstS_zero (L := r)]
      exact ⟨fun k x hx => (List.mem_cons.1 hx).elim (fun e => e ▸ h) (fun q => k x q), fun k x hx => k x (List.mem_cons_of_mem _ hx)⟩
    · rw [if_neg h]
      exact ⟨fun k => absurd k h, fun k => k l (List.mem_cons_self ..)⟩
theorem text_ne (s x : ByteArray) (h : 0 < s.size) : s ++ x ≠ ⟨#[]⟩ := fun e => by
  have := congrArg ByteArray.size e
  rw [cat_size] at this
  have z : (⟨#[]⟩ : ByteArray).size = 0 := rfl
  omega
theorem lvT_ne (x : ByteArray) : lvT x ≠ ⟨#[]⟩ := text_ne _ _ (by decide)
theorem scT_ne (x : ByteArray) : scT x ≠ ⟨#[]⟩ := text_ne _ _ (by decide)
theorem lackN_zero {C : Cf} : lackN C = ⟨#[]⟩ ↔ C.total ≠ 0 ∧ C.period ≠ 0 ∧ C.perSeat ≠ 0 := by
  unfold lackN
  by_cases h1 : C.total = 0
  · rw [if_pos h1]; exact ⟨fun e => absurd e (by decide), fun e => absurd h1 e.1⟩
  · rw [if_neg h1]
    by_cases h2 : C.period = 0
    · rw [if_pos h2]; exact ⟨fun e => absurd e (by decide), fun e => absurd h2 e.2.1⟩
    · rw [if_neg h2]
      by_cases h3 : C.perSeat = 0
      · rw [if_pos h3]; exact ⟨fun e => absurd e (by decide), fun e => absurd h3 e.2.2⟩
      · rw [if_neg h3]; exact ⟨fun _ => ⟨h1, h2, h3⟩, fun _ => rfl⟩

end Go.Proofs.YtlkoaldekmdcoaaGreatDoor
