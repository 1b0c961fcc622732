/-
  What the parts are: together the total, each its quota rounded down or up, in the shares' order; whole quotas; shares that are all taken so many times. Condition: nothing is refused.
-/
import Derived.Test.YtcombbkhdnipkaaBMathB
namespace Go.Proofs.Ytcombbkhdnipkaa.Bo

section
variable {total : Int} {n : Nat} {f : Nat → Int}

theorem Fits.last (h : Fits total n f) : Done n (Ytcombbkhdnipkaa.Bo.quo total n f) (Ytcombbkhdnipkaa.Bo.rem total n f) (Ytcombbkhdnipkaa.Bo.over total n f).toNat :=
  h.done _ (by have := h.over.1; omega)

theorem Fits.two (h : Fits total n f) (k : Nat) (hk : k < n) : part total n f k = Ytcombbkhdnipkaa.Bo.quo total n f k ∨ (part total n f k = Ytcombbkhdnipkaa.Bo.quo total n f k + 1 ∧ 0 < Ytcombbkhdnipkaa.Bo.rem total n f k) := by
  have d := h.last
  by_cases c : given n (Ytcombbkhdnipkaa.Bo.quo total n f) (Ytcombbkhdnipkaa.Bo.rem total n f) (Ytcombbkhdnipkaa.Bo.over total n f).toNat k
  · have := d.yes k hk c; exact .inr ⟨this.1, this.2.2⟩
  · have := d.no k hk c; exact .inl this.1

theorem Fits.ahead (h : Fits total n f) (i k : Nat) (hi : i < n) (hk : k < n) (e1 : part total n f i = Ytcombbkhdnipkaa.Bo.quo total n f i + 1) (e2 : part total n f k = Ytcombbkhdnipkaa.Bo.quo total n f k) :
    Ytcombbkhdnipkaa.Bo.rem total n f k < Ytcombbkhdnipkaa.Bo.rem total n f i ∨ (Ytcombbkhdnipkaa.Bo.rem total n f k = Ytcombbkhdnipkaa.Bo.rem total n f i ∧ i < k) := by
  have d := h.last
  refine d.ahead i k hi hk ?_ ?_
  · apply Classical.byContradiction
    intro c
    have := (d.no i hi c).1
    unfold part at e1; omega
  · intro c
    have := (d.yes k hk c).1
    unfold part at e2; omega

theorem Fits.sum (h : Fits total n f) : sumTo (part total n f) n = total := by
  have h1 := h.last.sum
  have h2 := h.over.1
  have h3 : Ytcombbkhdnipkaa.Bo.over total n f = total - sumTo (Ytcombbkhdnipkaa.Bo.quo total n f) n := rfl
  unfold part
  rw [h1]; omega

theorem Fits.part (h : Fits total n f) (k : Nat) (hk : k < n) : 0 ≤ part total n f k ∧ part total n f k ≤ 4096 := by
  have h0 : ∀ k, k < n → 0 ≤ Ytcombbkhdnipkaa.Bo.part total n f k := by
    intro k hk
    have := h.two k hk
    have := h.quo k hk
    omega
  have h1 := (le_sumTo n h0).2 k hk
  rw [h.sum] at h1
  have := h.hi
  exact ⟨h0 k hk, by omega⟩

theorem Fits.whole (h : Fits total n f) (k : Nat) (hk : k < n) :
    total * f k - sumTo f n < Ytcombbkhdnipkaa.Bo.part total n f k * sumTo f n ∧ Ytcombbkhdnipkaa.Bo.part total n f k * sumTo f n < total * f k + sumTo f n := by
  have h1 := quo_rem total n f k
  have h2 := h.rem k
  rw [Int.mul_comm] at h1
  rcases h.two k hk with e | ⟨e, hr⟩
  · rw [e]; omega
  · rw [e, Int.add_mul]; omega

theorem Fits.prodPart (h : Fits total n f) (k : Nat) (hk : k < n) : 0 ≤ Ytcombbkhdnipkaa.Bo.part total n f k * sumTo f n ∧ Ytcombbkhdnipkaa.Bo.part total n f k * sumTo f n ≤ 50000000 := by
  have h1 := h.whole k hk
  have h2 := h.prod k hk
  have h3 := h.sumHi
  have h4 := h.some
  refine ⟨Int.mul_nonneg (h.part k hk).1 (by omega), by omega⟩

theorem Fits.order (h : Fits total n f) (i k : Nat) (hi : i < n) (hk : k < n) (hs : f k < f i) : Ytcombbkhdnipkaa.Bo.part total n f k ≤ Ytcombbkhdnipkaa.Bo.part total n f i := by
  have e1 := quo_rem total n f i
  have e2 := quo_rem total n f k
  have r1 := h.rem i
  have r2 := h.rem k
  have hT : total * f k ≤ total * f i := Int.mul_le_mul_of_nonneg_left (by omega) h.lo
  have hq : Ytcombbkhdnipkaa.Bo.quo total n f k ≤ Ytcombbkhdnipkaa.Bo.quo total n f i := Int.ediv_le_ediv h.some hT
  have t1 := h.two i hi
  have t2 := h.two k hk
  by_cases c : Ytcombbkhdnipkaa.Bo.quo total n f k < Ytcombbkhdnipkaa.Bo.quo total n f i
  · omega
  · have eq : Ytcombbkhdnipkaa.Bo.quo total n f k = Ytcombbkhdnipkaa.Bo.quo total n f i := by omega
    rw [eq] at e2 t2
    rcases t2 with t2 | ⟨t2, p2⟩
    · omega
    · rcases t1 with t1 | ⟨t1, p1⟩
      · have ha := h.ahead k i hk hi (by rw [t2, eq]) t1
        have h0 : total * f k = total * f i := by omega
        have ht : 0 < total := by
          rcases Int.lt_or_eq_of_le h.lo with c | c
          · exact c
          · exfalso
            subst c
            have : Ytcombbkhdnipkaa.Bo.rem 0 n f k = 0 := by unfold Ytcombbkhdnipkaa.Bo.rem; simp
            omega
        have := Int.mul_lt_mul_of_pos_left hs ht
        omega
      · omega

theorem Fits.alike (h : Fits total n f) (i k : Nat) (hi : i < n) (hk : k < n) (hs : f i = f k) (hik : i < k) :
    Ytcombbkhdnipkaa.Bo.part total n f k ≤ Ytcombbkhdnipkaa.Bo.part total n f i ∧ Ytcombbkhdnipkaa.Bo.part total n f i ≤ Ytcombbkhdnipkaa.Bo.part total n f k + 1 := by
  have eq : Ytcombbkhdnipkaa.Bo.quo total n f k = Ytcombbkhdnipkaa.Bo.quo total n f i := by unfold Ytcombbkhdnipkaa.Bo.quo; rw [hs]
  have er : Ytcombbkhdnipkaa.Bo.rem total n f k = Ytcombbkhdnipkaa.Bo.rem total n f i := by unfold Ytcombbkhdnipkaa.Bo.rem; rw [hs]
  rcases h.two i hi with t1 | ⟨t1, p1⟩
  · rcases h.two k hk with t2 | ⟨t2, p2⟩
    · omega
    · have := h.ahead k i hk hi t2 t1
      omega
  · rcases h.two k hk with t2 | ⟨t2, p2⟩ <;> omega

theorem Fits.nothing (h : Fits total n f) (k : Nat) (hk : k < n) (hs : f k = 0) : Ytcombbkhdnipkaa.Bo.part total n f k = 0 := by
  have eq : Ytcombbkhdnipkaa.Bo.quo total n f k = 0 := by unfold Ytcombbkhdnipkaa.Bo.quo; rw [hs]; simp
  have er : Ytcombbkhdnipkaa.Bo.rem total n f k = 0 := by unfold Ytcombbkhdnipkaa.Bo.rem; rw [hs]; simp
  rcases h.two k hk with t | ⟨t, p⟩
  · rw [t, eq]
  · omega

theorem Fits.exact (h : Fits total n f) {t : Int} (ht : total = sumTo f n * t) (k : Nat) (hk : k < n) : Ytcombbkhdnipkaa.Bo.part total n f k = f k * t := by
  have hS := h.some
  have e : total * f k = sumTo f n * (f k * t) := by rw [ht, Int.mul_assoc, Int.mul_comm t]
  have eq : Ytcombbkhdnipkaa.Bo.quo total n f k = f k * t := by unfold Ytcombbkhdnipkaa.Bo.quo; rw [e, Int.mul_ediv_cancel_left _ (by omega)]
  have er : Ytcombbkhdnipkaa.Bo.rem total n f k = 0 := by unfold Ytcombbkhdnipkaa.Bo.rem; rw [e, Int.mul_emod_right]
  rcases h.two k hk with t | ⟨t, p⟩
  · rw [t, eq]
  · omega
end

theorem sumTo_scale {f g : Nat → Int} {n : Nat} {t : Int} (hg : ∀ k, k < n → g k = f k * t) : sumTo g n = t * sumTo f n := by
  rw [← sumTo_mul]
  exact sumTo_congr n fun k hk => by rw [hg k hk, Int.mul_comm]

theorem quo_scale {total : Int} {n : Nat} {f g : Nat → Int} {t : Int} (ht : 0 < t) (hg : ∀ k, k < n → g k = f k * t) (k : Nat) (hk : k < n) : quo total n g k = quo total n f k := by
  unfold quo
  rw [sumTo_scale hg, hg k hk, Int.mul_comm (f k) t, ← Int.mul_assoc, Int.mul_comm total t, Int.mul_assoc, Int.mul_ediv_mul_of_pos _ _ ht]
theorem rem_scale {total : Int} {n : Nat} {f g : Nat → Int} {t : Int} (ht : 0 < t) (hg : ∀ k, k < n → g k = f k * t) (k : Nat) (hk : k < n) : rem total n g k = t * rem total n f k := by
  unfold rem
  rw [sumTo_scale hg, hg k hk, Int.mul_comm (f k) t, ← Int.mul_assoc, Int.mul_comm total t, Int.mul_assoc, Int.mul_emod_mul_of_pos _ _ ht]
theorem part_scale {total : Int} {n : Nat} {f g : Nat → Int} {t : Int} (hn : 0 < n) (ht : 0 < t) (hg : ∀ k, k < n → g k = f k * t) (k : Nat) (hk : k < n) : part total n g k = part total n f k := by
  unfold part
  have e : over total n g = over total n f := by
    unfold over
    rw [sumTo_congr n (quo_scale ht hg)]
  rw [e]
  exact (hand_scale ht hn (quo_scale ht hg) (rem_scale ht hg) _).1 k hk

/-- Shares that are taken so many times are refused as before. -/
theorem refI_scale {total : Int} {n : Nat} {f g : Nat → Int} {t : Int} (ht : 0 < t) (hf : ∀ k, k < n → 0 ≤ f k ∧ f k ≤ 10000) (hg : ∀ k, k < n → g k = f k * t) (hg2 : ∀ k, k < n → 0 ≤ g k ∧ g k ≤ 10000) : refI total n g = refI total n f := by
  have n1 : ¬ ∃ k, k < n ∧ (g k < 0 ∨ 10000 < g k) := by rintro ⟨k, hk, c⟩; have := hg2 k hk; omega
  have n2 : ¬ ∃ k, k < n ∧ (f k < 0 ∨ 10000 < f k) := by rintro ⟨k, hk, c⟩; have := hf k hk; omega
  unfold refI
  rw [if_neg n1, if_neg n2, sumTo_scale hg]
  have : (t * sumTo f n = 0) ↔ (sumTo f n = 0) := by
    rw [Int.mul_eq_zero]; constructor
    · rintro (h | h)
      · omega
      · exact h
    · exact .inr
  simp only [this]
end Go.Proofs.Ytcombbkhdnipkaa.Bo
