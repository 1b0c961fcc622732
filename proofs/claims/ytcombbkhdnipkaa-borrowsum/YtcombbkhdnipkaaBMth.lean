/-
  The laws of bounds. Conditions: nothing is refused.
-/
import Derived.Test.YtcombbkhdnipkaaBAw
namespace Go.Proofs.Ytcombbkhdnipkaa.Bo
open Go.RowKit

section
variable {total : Int} {n : Nat} {l : Nat → Lv}
theorem part_le (hf : Fits total n (shr l)) {k : Nat} (hk : k < n) : part total n (shr l) k ≤ total := by
  have := (le_sumTo n (fun j hj => (hf.part j hj).1)).2 k hk
  rwa [hf.sum] at this
/-- What bounds of a part are. -/
structure Ord3 (total p : Int) (b : Bd) : Prop where
  nom : b.nom = p
  lo : 0 ≤ b.mn
  le : b.mn ≤ b.nom
  up : b.nom ≤ b.mx
  hi : b.mx ≤ total
theorem bd_ord {p : Int} {x : Lv} (h : InR x) (p0 : 0 ≤ p) (p1 : p ≤ 4096) (p2 : p ≤ total) : Ord3 total p (bdOf total p x) := by
  obtain ⟨h1, h2, h3, h4⟩ := h
  have a1 : 0 ≤ x.lend * p := Int.mul_nonneg h1 p0
  have a2 : x.lend * p ≤ 100 * p := Int.mul_le_mul_of_nonneg_right h2 p0
  refine ⟨rfl, ?_, ?_, ?_, ?_⟩
  · show 0 ≤ p - x.lend * p / 100
    omega
  · show p - x.lend * p / 100 ≤ p
    omega
  · show p ≤ if 0 ≤ x.borrow then min (p + x.borrow * p / 100) total else total
    split
    · rename_i c
      have b1 : 0 ≤ x.borrow * p := Int.mul_nonneg c p0
      omega
    · exact p2
  · show (if 0 ≤ x.borrow then min (p + x.borrow * p / 100) total else total) ≤ total
    split
    · omega
    · exact Int.le_refl _
theorem bds_ord (hf : Fits total n (shr l)) (hi : ∀ k, k < n → InR (l k)) {k : Nat} (hk : k < n) : Ord3 total (part total n (shr l) k) (bds total n l k) :=
  bd_ord (hi k hk) (hf.part k hk).1 (hf.part k hk).2 (part_le hf hk)
theorem sumTo_mono {f g : Nat → Int} : ∀ n, (∀ k, k < n → f k ≤ g k) → sumTo f n ≤ sumTo g n
  | 0, _ => Int.le_refl _
  | n + 1, h => by
    have := sumTo_mono n (fun k hk => h k (by omega))
    have := h n (by omega)
    simp only [sumTo]
    omega
def nomS (total : Int) (n : Nat) (l : Nat → Lv) : Nat → Int := sumTo fun j => (bds total n l j).nom
def mnS (total : Int) (n : Nat) (l : Nat → Lv) : Nat → Int := sumTo fun j => (bds total n l j).mn
def mxS (total : Int) (n : Nat) (l : Nat → Lv) : Nat → Int := sumTo fun j => (bds total n l j).mx
theorem nomS_all (hf : Fits total n (shr l)) : nomS total n l n = total := by
  unfold nomS
  exact hf.sum
theorem mnS_all (hf : Fits total n (shr l)) (hi : ∀ k, k < n → InR (l k)) : mnS total n l n ≤ total := by
  have := sumTo_mono (f := fun j => (bds total n l j).mn) (g := fun j => (bds total n l j).nom) n (fun k hk => (bds_ord hf hi hk).le)
  have e := nomS_all (l := l) hf
  unfold nomS at e
  unfold mnS
  omega
theorem mxS_all (hf : Fits total n (shr l)) (hi : ∀ k, k < n → InR (l k)) : total ≤ mxS total n l n := by
  have := sumTo_mono (f := fun j => (bds total n l j).nom) (g := fun j => (bds total n l j).mx) n (fun k hk => (bds_ord hf hi hk).up)
  have e := nomS_all (l := l) hf
  unfold nomS at e
  unfold mxS
  omega
theorem sums_fit (hf : Fits total n (shr l)) (hi : ∀ k, k < n → InR (l k)) {k : Nat} (hk : k ≤ n) :
    (0 ≤ nomS total n l k ∧ nomS total n l k ≤ 65536) ∧ (0 ≤ mnS total n l k ∧ mnS total n l k ≤ 65536) ∧ 0 ≤ mxS total n l k ∧ mxS total n l k ≤ 65536 := by
  have hl := hf.len
  have ht := hf.hi
  have s1 := sumTo_le (f := fun j => (bds total n l j).nom) (n := n) (M := 4096) (fun j hj => by have := bds_ord hf hi hj; have := this.lo; have := this; exact ⟨by have := (bds_ord hf hi hj).le; omega, by have := (bds_ord hf hi hj).up; have := (bds_ord hf hi hj).hi; omega⟩) k hk
  have s2 := sumTo_le (f := fun j => (bds total n l j).mn) (n := n) (M := 4096) (fun j hj => ⟨(bds_ord hf hi hj).lo, by have := (bds_ord hf hi hj).le; have := (bds_ord hf hi hj).up; have := (bds_ord hf hi hj).hi; omega⟩) k hk
  have s3 := sumTo_le (f := fun j => (bds total n l j).mx) (n := n) (M := 4096) (fun j hj => ⟨by have := (bds_ord hf hi hj).lo; have := (bds_ord hf hi hj).le; have := (bds_ord hf hi hj).up; omega, by have := (bds_ord hf hi hj).hi; omega⟩) k hk
  unfold nomS mnS mxS
  omega
/-- A level that lends or borrows nothing, or all. -/
theorem bd_shut {p : Int} {x : Lv} (h : InR x) (p2 : p ≤ total) : (x.lend = 0 → (bdOf total p x).mn = (bdOf total p x).nom) ∧ (x.lend = 100 → (bdOf total p x).mn = 0) ∧ (x.borrow = 0 → (bdOf total p x).mx = (bdOf total p x).nom) ∧ (x.borrow = -1 → (bdOf total p x).mx = total) := by
  obtain ⟨h1, h2, h3, h4⟩ := h
  refine ⟨fun e => ?_, fun e => ?_, fun e => ?_, fun e => ?_⟩
  · show p - x.lend * p / 100 = p
    rw [e]; omega
  · show p - x.lend * p / 100 = 0
    rw [e]; omega
  · show (if 0 ≤ x.borrow then min (p + x.borrow * p / 100) total else total) = p
    rw [if_pos (by omega), e]; omega
  · show (if 0 ≤ x.borrow then min (p + x.borrow * p / 100) total else total) = total
    rw [if_neg (by omega)]
/-- More hundredths of more. -/
theorem hun_mono {c p q : Int} (hc : 0 ≤ c) (h : p ≤ q) : c * p / 100 ≤ c * q / 100 := by
  have := Int.mul_le_mul_of_nonneg_left h hc
  omega
theorem bd_mono {p q : Int} {x y : Lv} (hx : InR x) (h : p ≤ q) (p0 : 0 ≤ p) : (bdOf total p x).nom ≤ (bdOf total q y).nom ∧ (x.borrow = y.borrow → (bdOf total p x).mx ≤ (bdOf total q y).mx) ∧ (x.lend = y.lend → (bdOf total p x).mn ≤ (bdOf total q y).mn) := by
  obtain ⟨h1, h2, h3, h4⟩ := hx
  refine ⟨h, fun e => ?_, fun e => ?_⟩
  · show (if 0 ≤ x.borrow then min (p + x.borrow * p / 100) total else total) ≤ (if 0 ≤ y.borrow then min (q + y.borrow * q / 100) total else total)
    rw [e]
    by_cases c : 0 ≤ y.borrow
    · rw [if_pos c, if_pos c]
      have := hun_mono c h
      omega
    · rw [if_neg c, if_neg c]
      exact Int.le_refl _
  · show p - x.lend * p / 100 ≤ q - y.lend * q / 100
    rw [← e]
    have a : x.lend * (q - p) ≤ 100 * (q - p) := Int.mul_le_mul_of_nonneg_right h2 (by omega)
    rw [Int.mul_sub, Int.mul_sub] at a
    have := Int.mul_nonneg h1 p0
    omega
end
end Go.Proofs.Ytcombbkhdnipkaa.Bo
