/-
  What 'Lent' of borrow answers. Conditions: the lists lie in memory, and are short, and their numbers may be.
-/
import Derived.Test.YtcombbkhdnipkaaRl
namespace Go.Proofs.Ytcombbkhdnipkaa
open Go.RowKit

def lentF (g f : Nat → Int) : Nat → Int := fun j => if f j < g j then g j - f j else 0
def borF (g f : Nat → Int) : Nat → Int := fun j => if f j < g j then 0 else f j - g j
theorem lent_le {g f : Nat → Int} {n : Nat} (h : ∀ k, k < n → (0 ≤ g k ∧ g k ≤ 4096) ∧ 0 ≤ f k ∧ f k ≤ 4096) {k : Nat} (hk : k ≤ n) (hn : n ≤ 64) : (0 ≤ sumTo (lentF g f) k ∧ sumTo (lentF g f) k ≤ 262144) ∧ 0 ≤ sumTo (borF g f) k ∧ sumTo (borF g f) k ≤ 262144 := by
  have s1 := sumTo_le (f := lentF g f) (n := n) (M := 4096) (fun j hj => by have := h j hj; unfold lentF; split <;> omega) k hk
  have s2 := sumTo_le (f := borF g f) (n := n) (M := 4096) (fun j hj => by have := h j hj; unfold borF; split <;> omega) k hk
  omega
/-- What is lent is what is borrowed, where both are the same together. -/
theorem lent_eq (g f : Nat → Int) : ∀ n, sumTo (lentF g f) n - sumTo (borF g f) n = sumTo g n - sumTo f n
  | 0 => rfl
  | n + 1 => by
    have := lent_eq g f n
    simp only [sumTo]
    have : lentF g f n - borF g f n = g n - f n := by unfold lentF borF; split <;> omega
    omega

set_option maxRecDepth 20000 in
set_option maxHeartbeats 2000000 in
theorem lent_ok (a b : Option Addr) (n m c1 c2 : Nat) (G : Nat → Bd) (f : Nat → Int) (w : World) (hb : BdR w a n G) (hd : Row w b m f) (hn : n ≤ 64) (hm : m ≤ 64) (h : ∀ k, k < min n m → (0 ≤ noms G k ∧ noms G k ≤ 4096) ∧ 0 ≤ f k ∧ f k ≤ 4096) :
    Calls Try.prog 12 #[.slice a n c1, .slice b m c2] w fun e w' => e = .returned (.tuple #[.int .i64 (sumTo (lentF (noms G) f) (min n m)), .int .i64 (sumTo (borF (noms G) f) (min n m))]) ∧ Below w.heap.size w w' := by
  have HB : Hd (BdR w a n G) := ⟨hb⟩
  have HD : Hd (Row w b m f) := ⟨hd⟩
  have HH : Hd (∀ k, k < min n m → (0 ≤ noms G k ∧ noms G k ≤ 4096) ∧ 0 ≤ f k ∧ f k ≤ 4096) := ⟨h⟩
  clear hb hd h
  go_enter Try.func12, Try.ntmps12
  go_wp2_with fail
  go_loopw [6, 7, 14] (fun s t i wr => ∃ k : Nat, k ≤ min n m ∧ i = .int .i64 k ∧ s = .int .i64 (sumTo (lentF (noms G) f) k) ∧ t = .int .i64 (sumTo (borF (noms G) f) k) ∧ Below w.heap.size w wr) (fun _ _ i _ => min n m - (intOf i).toNat)
  case atStart => exact ⟨0, Nat.zero_le _, rfl, rfl, rfl, Below.refl _ _⟩
  case round =>
    obtain ⟨k, hk, rfl, rfl, rfl, p3⟩ := hrel
    obtain ⟨⟨s1, s2⟩, s3, s4⟩ := lent_le HH.out hk (by omega)
    by_cases hlt : k < min n m
    · obtain ⟨⟨v1, v2⟩, v3, v4⟩ := HH.out k hlt
      obtain ⟨b1, o1, rfl, hb1, hc1⟩ := HB.out (by omega)
      obtain ⟨b2, o2, rfl, hb2, hc2⟩ := HD.out (by omega)
      have d1 : wr.cell? ⟨b1, o1 + k * 3, none⟩ = some (.int .i64 (noms G k)) := (p3.cell (p := ⟨b1, o1 + k * 3, none⟩) hb1).trans (hc1 k (by omega)).1
      have d2 := (p3.cell (p := ⟨b2, o2 + k, none⟩) hb2).trans (hc2 k (by omega))
      have hlt' : (k : Int) < min (n : Int) (m : Int) := by omega
      have j1 : (k : Int) < (n : Int) := by omega
      have j2 : (k : Int) < (m : Int) := by omega
      have e1 : Hd (sumTo (lentF (noms G) f) (k + 1) = sumTo (lentF (noms G) f) k + lentF (noms G) f k) := ⟨rfl⟩
      have e2 : Hd (sumTo (borF (noms G) f) (k + 1) = sumTo (borF (noms G) f) k + borF (noms G) f k) := ⟨rfl⟩
      have P : Hd (Below w.heap.size w wr) := ⟨p3⟩
      clear hc1 hc2 p3
      by_cases c : f k < noms G k
      · have l1 : lentF (noms G) f k = noms G k - f k := by unfold lentF; rw [if_pos c]
        have l2 : borF (noms G) f k = 0 := by unfold borF; rw [if_pos c]
        rw [l1] at e1
        rw [l2, Int.add_zero] at e2
        clear l1 l2
        generalize noms G k = y at *
        generalize f k = x at *
        have gd : decide (x < y) = true := decide_eq_true c
        go_wp2_with fail
        go_quiet (fail)
        go_upto_region 6 with fail
        go_quiet (fail)
        go_wp2_with fail
        go_roundw
        case rel => exact ⟨k + 1, by omega, by go_num, by rw [e1.out], by rw [e2.out], ⟨P.out.os, P.out.tape, P.out.output, P.out.size, P.out.block⟩⟩
        case measure => simp [intOf]; omega
      · have l1 : lentF (noms G) f k = 0 := by unfold lentF; rw [if_neg c]
        have l2 : borF (noms G) f k = f k - noms G k := by unfold borF; rw [if_neg c]
        rw [l1, Int.add_zero] at e1
        rw [l2] at e2
        clear l1 l2
        generalize noms G k = y at *
        generalize f k = x at *
        have gd : decide (x < y) = false := decide_eq_false c
        go_wp2_with fail
        go_quiet (fail)
        go_upto_region 7 with fail
        go_quiet (fail)
        go_wp2_with fail
        go_roundw
        case rel => exact ⟨k + 1, by omega, by go_num, by rw [e1.out], by rw [e2.out], ⟨P.out.os, P.out.tape, P.out.output, P.out.size, P.out.block⟩⟩
        case measure => simp [intOf]; omega
    · obtain rfl : k = min n m := by omega
      have hlt' : ¬ ((min n m : Nat) : Int) < min (n : Int) (m : Int) := by omega
      clear hlt hk
      go_wp2_with fail
      go_ret2
      exact ⟨rfl, p3⟩
end Go.Proofs.Ytcombbkhdnipkaa
