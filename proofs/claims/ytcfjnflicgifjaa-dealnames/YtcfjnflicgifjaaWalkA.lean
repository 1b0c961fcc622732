/-
  What 'Hands' of the program and of the reference, 'below', 'slices.Index', 'slices.Contains', 'cards' of the program and 'Same' of the reference answer. Conditions: the lists lie in memory; of 'cards' that the deck is one.
-/
import Derived.Test.YtcfjnflicgifjaaRows
import Derived.Test.YtcfjnflicgifjaaMath
import Derived.ProofKit
import Derived.OpenShut
import Derived.Below
import Derived.BigQuiet
import Derived.OwnWalk
import Derived.Deep.QuietTactic
namespace Go.Proofs.Ytcfjnflicgifjaa
open Go.RowKit

/-- Numbers that may be asked for: a deck of cards, a hand that is not greater. -/
structure Low (D n : Nat) : Prop where
  d0 : 1 ≤ D
  d1 : D ≤ 64
  n0 : 1 ≤ n
  n1 : n ≤ 8
  nd : n ≤ D
/-- And not too many hands. -/
structure Good (D n : Nat) : Prop extends Low D n where
  few : P D n ≤ 1099511627776

/-- What Hands refuses, as a number. -/
def refH (deck n : Int) : Int :=
  if deck < 1 ∨ 64 < deck ∨ n < 1 ∨ 8 < n then 1 else if deck < n then 8 else if 1099511627776 < P deck.toNat n.toNat then 10 else 0

theorem good_of {deck n : Int} (h : refH deck n = 0) : ∃ D m : Nat, deck = D ∧ n = m ∧ Good D m := by
  unfold refH at h
  split at h
  · simp at h
  rename_i h1
  split at h
  · simp at h
  rename_i h2
  split at h
  · simp at h
  rename_i h3
  exact ⟨deck.toNat, n.toNat, by omega, by omega, ⟨⟨by omega, by omega, by omega, by omega, by omega⟩, by omega⟩⟩
theorem Good.ref {D n : Nat} (h : Good D n) : refH D n = 0 := by
  obtain ⟨⟨h1, h2, h3, h4, h5⟩, h6⟩ := h
  unfold refH
  rw [if_neg (by omega), if_neg (by omega)]
  simp
  omega
theorem Good.less {D n : Nat} (h : Good D (n + 1)) (hn : 0 < n) : Good D n := by
  obtain ⟨⟨h1, h2, h3, h4, h5⟩, h6⟩ := h
  refine ⟨⟨h1, h2, by omega, by omega, by omega⟩, ?_⟩
  rw [P_succ] at h6
  have : P D n * 1 ≤ P D n * (D - n) := Nat.mul_le_mul_left _ (by omega)
  omega

theorem P_step {D n k : Nat} (h : Low D n) (hk : k < n) : ((P D k : Int) * ((D : Int) - (k : Int))) = (P D (k + 1) : Nat) ∧ (0 ≤ (P D k : Int) * ((D : Int) - (k : Int))) ∧ ((P D k : Int) * ((D : Int) - (k : Int)) ≤ 281474976710656) := by
  have e : ((D : Int) - (k : Int)) = ((D - k : Nat) : Int) := by have := h.nd; omega
  have e2 : ((P D k : Int) * ((D : Int) - (k : Int))) = (P D (k + 1) : Nat) := by rw [e, P_succ, Int.natCast_mul]
  have := P_big h.d1 (n := k + 1) (by have := h.n1; omega)
  rw [e2]
  exact ⟨rfl, by omega, by omega⟩

theorem hands_low (D n : Nat) (w : World) (h : Low D n) : Calls Try.prog 11 #[.int .i64 D, .int .i64 n] w fun e w' =>
    e = .returned (if 1099511627776 < P D n then .tuple #[.int .u64 0, .int .i64 10] else .tuple #[.int .u64 (P D n), .int .i64 0]) ∧ w' = w := by
  have hd0 := h.d0
  have hd1 := h.d1
  have hn0 := h.n0
  have hn1 := h.n1
  have hnd := h.nd
  go_enter Try.func11, Try.ntmps11
  go_wp2
  go_loop [6, 26] (fun s i => ∃ k : Nat, k ≤ n ∧ i = .int .i64 k ∧ s = .int .u64 (P D k)) (fun _ i => n - (intOf i).toNat)
  case atStart => exact ⟨0, Nat.zero_le _, rfl, rfl⟩
  case round =>
    obtain ⟨k, hk, rfl, rfl⟩ := hrel
    by_cases hlt : k < n
    · obtain ⟨e1, e2, e3⟩ := P_step h hlt
      have E : Hid (((P D k : Int) * ((D : Int) - (k : Int))) = (P D (k + 1) : Nat)) := e1
      have hp := P_big h.d1 (n := k) (by omega)
      clear e1 h
      go_wp2
      go_round
      case rel => exact ⟨k + 1, by omega, by go_num, by rw [← E.out]⟩
      case measure => simp [intOf]; omega
    · obtain rfl : k = n := by omega
      have hp := P_big h.d1 (n := k) (by omega)
      by_cases t : 1099511627776 < P D k
      · have t' : (1099511627776 : Int) < (P D k : Int) := by omega
        clear h
        go_wp2
        go_ret2
        exact ⟨rfl, rfl⟩
      · have t' : ¬ (1099511627776 : Int) < (P D k : Int) := by omega
        clear h
        go_wp2
        go_ret2
        exact ⟨rfl, rfl⟩

theorem hands_yes (D n : Nat) (w : World) (h : Good D n) : Calls Try.prog 11 #[.int .i64 D, .int .i64 n] w fun e w' => e = .returned (.tuple #[.int .u64 (P D n), .int .i64 0]) ∧ w' = w := by
  refine (hands_low D n w h.toLow).mono ?_
  rintro e w' ⟨rfl, rfl⟩
  have := h.few
  rw [if_neg (by omega)]
  exact ⟨rfl, rfl⟩

theorem hands_no (deck n : Int) (w : World) (h : (refH deck n == 0) = false) : Calls Try.prog 11 #[.int .i64 deck, .int .i64 n] w fun e w' => e = .returned (.tuple #[.int .u64 0, .int .i64 (refH deck n)]) ∧ w' = w := by
  by_cases t1 : deck < 1
  · have e : refH deck n = 1 := by simp [refH, t1]
    rw [e]; clear e h
    go_enter Try.func11, Try.ntmps11
    go_wp2
    go_ret2; exact ⟨rfl, rfl⟩
  by_cases t2 : 64 < deck
  · have e : refH deck n = 1 := by simp [refH, t2]
    rw [e]; clear e h
    go_enter Try.func11, Try.ntmps11
    go_wp2
    go_ret2; exact ⟨rfl, rfl⟩
  by_cases t3 : n < 1
  · have e : refH deck n = 1 := by simp [refH, t3]
    rw [e]; clear e h
    go_enter Try.func11, Try.ntmps11
    go_wp2
    go_ret2; exact ⟨rfl, rfl⟩
  by_cases t4 : 8 < n
  · have e : refH deck n = 1 := by simp [refH, t4]
    rw [e]; clear e h
    go_enter Try.func11, Try.ntmps11
    go_wp2
    go_ret2; exact ⟨rfl, rfl⟩
  by_cases t5 : deck < n
  · have e : refH deck n = 8 := by unfold refH; rw [if_neg (by omega), if_pos t5]
    rw [e]; clear e h
    go_enter Try.func11, Try.ntmps11
    go_wp2
    go_ret2; exact ⟨rfl, rfl⟩
  obtain ⟨D, rfl⟩ : ∃ D : Nat, deck = D := ⟨deck.toNat, by omega⟩
  obtain ⟨m, rfl⟩ : ∃ m : Nat, n = m := ⟨n.toNat, by omega⟩
  by_cases t6 : 1099511627776 < P D m
  · have e : refH D m = 10 := by unfold refH; rw [if_neg (by omega), if_neg (by omega), Int.toNat_natCast, Int.toNat_natCast, if_pos t6]
    rw [e]
    refine (hands_low D m w ⟨by omega, by omega, by omega, by omega, by omega⟩).mono ?_
    rintro e w' ⟨rfl, rfl⟩
    rw [if_pos t6]
    exact ⟨rfl, rfl⟩
  · have e : refH D m = 0 := by unfold refH; rw [if_neg (by omega), if_neg (by omega), Int.toNat_natCast, Int.toNat_natCast, if_neg t6]
    rw [e] at h
    cases h

theorem rhands_low (D n : Nat) (w : World) (h : Low D n) : Calls Try.prog 12 #[.int .i64 D, .int .i64 n] w fun e w' =>
    e = .returned (if 1099511627776 < P D n then .tuple #[.int .u64 0, .int .i64 10] else .tuple #[.int .u64 (P D n), .int .i64 0]) ∧ w' = w := by
  have hd0 := h.d0
  have hd1 := h.d1
  have hn0 := h.n0
  have hn1 := h.n1
  have hnd := h.nd
  go_enter Try.func12, Try.ntmps12
  go_wp2
  go_loop [6, 7] (fun s i => ∃ k : Nat, k ≤ n ∧ i = .int .i64 k ∧ s = .int .u64 (P D k)) (fun _ i => n - (intOf i).toNat)
  case atStart => exact ⟨0, Nat.zero_le _, rfl, rfl⟩
  case round =>
    obtain ⟨k, hk, rfl, rfl⟩ := hrel
    by_cases hlt : k < n
    · obtain ⟨e1, e2, e3⟩ := P_step h hlt
      have E : Hid (((P D k : Int) * ((D : Int) - (k : Int))) = (P D (k + 1) : Nat)) := e1
      have hp := P_big h.d1 (n := k) (by omega)
      clear e1 h
      go_wp2
      go_round
      case rel => exact ⟨k + 1, by omega, by go_num, by rw [← E.out]⟩
      case measure => simp [intOf]; omega
    · obtain rfl : k = n := by omega
      have hp := P_big h.d1 (n := k) (by omega)
      by_cases t : 1099511627776 < P D k
      · have t' : (1099511627776 : Int) < (P D k : Int) := by omega
        clear h
        go_wp2
        go_ret2
        exact ⟨rfl, rfl⟩
      · have t' : ¬ (1099511627776 : Int) < (P D k : Int) := by omega
        clear h
        go_wp2
        go_ret2
        exact ⟨rfl, rfl⟩

theorem rhands_yes (D n : Nat) (w : World) (h : Good D n) : Calls Try.prog 12 #[.int .i64 D, .int .i64 n] w fun e w' => e = .returned (.tuple #[.int .u64 (P D n), .int .i64 0]) ∧ w' = w := by
  refine (rhands_low D n w h.toLow).mono ?_
  rintro e w' ⟨rfl, rfl⟩
  have := h.few
  rw [if_neg (by omega)]
  exact ⟨rfl, rfl⟩

theorem rhands_no (deck n : Int) (w : World) (h : (refH deck n == 0) = false) : Calls Try.prog 12 #[.int .i64 deck, .int .i64 n] w fun e w' => e = .returned (.tuple #[.int .u64 0, .int .i64 (refH deck n)]) ∧ w' = w := by
  by_cases t1 : deck < 1
  · have e : refH deck n = 1 := by simp [refH, t1]
    rw [e]; clear e h
    go_enter Try.func12, Try.ntmps12
    go_wp2
    go_ret2; exact ⟨rfl, rfl⟩
  by_cases t2 : 64 < deck
  · have e : refH deck n = 1 := by simp [refH, t2]
    rw [e]; clear e h
    go_enter Try.func12, Try.ntmps12
    go_wp2
    go_ret2; exact ⟨rfl, rfl⟩
  by_cases t3 : n < 1
  · have e : refH deck n = 1 := by simp [refH, t3]
    rw [e]; clear e h
    go_enter Try.func12, Try.ntmps12
    go_wp2
    go_ret2; exact ⟨rfl, rfl⟩
  by_cases t4 : 8 < n
  · have e : refH deck n = 1 := by simp [refH, t4]
    rw [e]; clear e h
    go_enter Try.func12, Try.ntmps12
    go_wp2
    go_ret2; exact ⟨rfl, rfl⟩
  by_cases t5 : deck < n
  · have e : refH deck n = 8 := by unfold refH; rw [if_neg (by omega), if_pos t5]
    rw [e]; clear e h
    go_enter Try.func12, Try.ntmps12
    go_wp2
    go_ret2; exact ⟨rfl, rfl⟩
  obtain ⟨D, rfl⟩ : ∃ D : Nat, deck = D := ⟨deck.toNat, by omega⟩
  obtain ⟨m, rfl⟩ : ∃ m : Nat, n = m := ⟨n.toNat, by omega⟩
  by_cases t6 : 1099511627776 < P D m
  · have e : refH D m = 10 := by unfold refH; rw [if_neg (by omega), if_neg (by omega), Int.toNat_natCast, Int.toNat_natCast, if_pos t6]
    rw [e]
    refine (rhands_low D m w ⟨by omega, by omega, by omega, by omega, by omega⟩).mono ?_
    rintro e w' ⟨rfl, rfl⟩
    rw [if_pos t6]
    exact ⟨rfl, rfl⟩
  · have e : refH D m = 0 := by unfold refH; rw [if_neg (by omega), if_neg (by omega), Int.toNat_natCast, Int.toNat_natCast, if_neg t6]
    rw [e] at h
    cases h

/-- The slice at a of n numbers lies in memory, and its numbers are f 0, f 1, .. -/
def Row (w : World) (a : Option Addr) (n : Nat) (f : Nat → Int) : Prop :=
  0 < n → ∃ b off, a = some ⟨b, off, none⟩ ∧ b < w.heap.size ∧ ∀ k, k < n → w.cell? ⟨b, off + k, none⟩ = some (.int .i64 (f k))

theorem Row.carry {w w' : World} {a : Option Addr} {n : Nat} {f : Nat → Int} (h : Row w a n f) (g : Below w.heap.size w w') : Row w' a n f := by
  intro hn
  obtain ⟨b, off, e, hb, hc⟩ := h hn
  exact ⟨b, off, e, Nat.lt_of_lt_of_le hb g.size, fun k hk => (g.cell (p := ⟨b, off + k, none⟩) hb).trans (hc k hk)⟩
theorem Row.less {w : World} {a : Option Addr} {n m : Nat} {f : Nat → Int} (h : Row w a n f) (hm : m ≤ n) : Row w a m f := by
  intro hn
  obtain ⟨b, off, e, hb, hc⟩ := h (by omega)
  exact ⟨b, off, e, hb, fun k hk => hc k (by omega)⟩
theorem Row.drew {w : World} {a : Option Addr} {n : Nat} {f : Nat → Int} (h : Row w a n f) (q : Nat) : Row (w.drewN q) a n f := h

theorem same_yes (a b : Option Addr) (n c1 c2 : Nat) (f g : Nat → Int) (w : World) (h1 : Row w a n f) (h2 : Row w b n g) (hn : n ≤ 9223372036854775807) (h : ∀ k, k < n → f k = g k) :
    Calls Try.prog 13 #[.slice a n c1, .slice b n c2] w fun e w' => e = .returned (.bool true) ∧ Below w.heap.size w w' := by
  have H : Hid (∀ k, k < n → f k = g k) := h
  clear h
  go_enter Try.func13, Try.ntmps13
  go_wp2
  go_loopw [5] (fun i wr => ∃ k : Nat, k ≤ n ∧ i = .int .i64 k ∧ Below w.heap.size w wr) (fun i _ => n - (intOf i).toNat)
  case atStart => exact ⟨0, Nat.zero_le _, rfl, Below.refl _ _⟩
  case round =>
    obtain ⟨k, hk, rfl, p3⟩ := hrel
    by_cases hlt : k < n
    · obtain ⟨b1, o1, rfl, hb1, hc1⟩ := h1 (by omega)
      obtain ⟨b2, o2, rfl, hb2, hc2⟩ := h2 (by omega)
      have d1 := (p3.cell (p := ⟨b1, o1 + k, none⟩) hb1).trans (hc1 k hlt)
      have d2 := (p3.cell (p := ⟨b2, o2 + k, none⟩) hb2).trans (hc2 k hlt)
      rw [← H.out k hlt] at d2
      clear h1 h2 hc1 hc2
      go_wp2
      go_quiet (fail)
      go_wp2
      go_roundw
      case rel => exact ⟨k + 1, by omega, by go_num, ⟨p3.os, p3.tape, p3.output, p3.size, p3.block⟩⟩
      case measure => simp [intOf]; omega
    · obtain rfl : k = n := by omega
      clear h1 h2
      go_wp2
      go_ret
      exact ⟨rfl, p3⟩

/-- A list of cards as Go's integers. -/
def ints (c : Nat → Nat) : Nat → Int := fun k => (c k : Int)

theorem below_any (a : Option Addr) (n cap : Nat) (c : Nat → Nat) (x : Nat) (w : World) (hr : Row w a n (ints c)) (hn : n ≤ 64) :
    Calls Try.prog 20 #[.slice a n cap, .int .i64 x] w fun e w' => e = .returned (.int .i64 (cnt c n x)) ∧ w' = w := by
  go_enter Try.func20, Try.ntmps20
  go_wp2
  go_loop [5, 10] (fun s i => ∃ k : Nat, k ≤ n ∧ i = .int .i64 k ∧ ∃ q : Nat, s = .int .i64 q ∧ q = cnt c k x ∧ q ≤ k) (fun _ i => n - (intOf i).toNat)
  case atStart => exact ⟨0, Nat.zero_le _, rfl, 0, rfl, rfl, Nat.zero_le _⟩
  case round =>
    obtain ⟨k, hk, rfl, q, rfl, hq, hqk⟩ := hrel
    have HQ : Hid (q = cnt c k x) := hq
    clear hq
    by_cases hlt : k < n
    · obtain ⟨b, off, rfl, hb, hc⟩ := hr (by omega)
      have hcell : w.cell? ⟨b, off + k, none⟩ = some (.int .i64 (c k : Nat)) := hc k hlt
      clear hc
      by_cases t : c k < x
      · have E : Hid (q + 1 = cnt c (k + 1) x) := by show _ = _; rw [cnt_succ, if_pos t, HQ.out]
        go_wp2
        go_round
        case rel => exact ⟨k + 1, by omega, by go_num, q + 1, by go_num, E.out, by omega⟩
        case measure => simp [intOf]; omega
      · have E : Hid (q = cnt c (k + 1) x) := by show _ = _; rw [cnt_succ, if_neg t, HQ.out, Nat.add_zero]
        go_wp2
        go_round
        case rel => exact ⟨k + 1, by omega, by go_num, q, rfl, E.out, by omega⟩
        case measure => simp [intOf]; omega
    · obtain rfl : k = n := by omega
      clear hr
      go_wp2
      go_ret; exact ⟨by rw [← HQ.out]; rfl, rfl⟩

theorem index_any (a : Option Addr) (n cap : Nat) (f : Nat → Int) (x : Int) (w : World) (hr : Row w a n f) (hn : n ≤ 64) :
    Calls Try.prog 22 #[.slice a n cap, .int .i64 x] w fun e w' => ∃ y : Int, e = .returned (.int .i64 y) ∧ ((0 ≤ y ∧ ∃ k, k < n ∧ f k = x) ∨ (y = -1 ∧ ∀ k, k < n → f k ≠ x)) ∧ w' = w := by
  go_enter Try.func22, Try.ntmps22
  go_wp2
  go_loop [8] (fun i => ∃ k : Nat, k ≤ n ∧ i = .int .i64 k ∧ Hid (∀ j, j < k → f j ≠ x)) (fun i => n - (intOf i).toNat)
  case atStart => exact ⟨0, Nat.zero_le _, rfl, fun j hj => absurd hj (Nat.not_lt_zero _)⟩
  case round =>
    obtain ⟨k, hk, rfl, hall⟩ := hrel
    by_cases hlt : k < n
    · obtain ⟨b, off, rfl, hb, hc⟩ := hr (by omega)
      have hcell := hc k hlt
      clear hc
      by_cases t : x = f k
      · have F : Hid (∃ k, k < n ∧ f k = x) := ⟨k, hlt, t.symm⟩
        clear hr
        subst t
        go_wp2
        go_ret; exact ⟨_, rfl, .inl ⟨by omega, F.out⟩, rfl⟩
      · have t' : (x == f k) = false := by simpa using t
        go_wp2
        go_round
        case rel =>
          refine ⟨k + 1, by omega, by go_num, fun j hj => ?_⟩
          rcases Nat.lt_or_eq_of_le (Nat.le_of_lt_succ hj) with h | rfl
          · exact hall.out j h
          · exact fun e => t e.symm
        case measure => simp [intOf]; omega
    · obtain rfl : k = n := by omega
      clear hr
      go_wp2
      go_ret; exact ⟨_, rfl, .inr ⟨rfl, hall.out⟩, rfl⟩

/-- Is x among the first n? -/
def has (f : Nat → Int) (n : Nat) (x : Int) : Prop := ∃ k, k < n ∧ f k = x

theorem contains_any (a : Option Addr) (n cap : Nat) (f : Nat → Int) (x : Int) (w : World) (hr : Row w a n f) (hn : n ≤ 64) :
    Calls Try.prog 21 #[.slice a n cap, .int .i64 x] w fun e w' => ∃ y : Bool, e = .returned (.bool y) ∧ (y = true ↔ ∃ k, k < n ∧ f k = x) ∧ w' = w := by
  go_enter Try.func21, Try.ntmps21
  go_wp2_with fail
  go_at_call 22
  refine (index_any _ _ _ f _ _ hr hn).mono ?_
  rintro e w' ⟨y, rfl, hy, hw⟩
  obtain rfl := hw.symm
  rcases hy with ⟨h1, h2⟩ | ⟨rfl, h2⟩
  · have F : Hid (∃ k, k < n ∧ f k = x) := h2
    clear h2 hr
    go_wp2
    go_ret
    exact ⟨true, rfl, ⟨fun _ => F.out, fun _ => rfl⟩, rfl⟩
  · have F : Hid (∀ k, k < n → f k ≠ x) := h2
    clear h2 hr
    go_wp2
    go_ret
    exact ⟨false, rfl, ⟨fun h => (by cases h), fun ⟨k, h, e⟩ => absurd e (F.out k h)⟩, rfl⟩
end Go.Proofs.Ytcfjnflicgifjaa
