/-
  Hands of cards, without a program: how many there are, which card comes at which place, what a hand is told as. No condition but those that are written.
-/
import Derived.WalkKit
namespace Go.Proofs.Ytcfjnflicgifjaa

/-- How many hands of so many cards: a product. -/
def P (D : Nat) : Nat → Nat
  | 0 => 1
  | n + 1 => P D n * (D - n)

theorem P_succ (D n : Nat) : P D (n + 1) = P D n * (D - n) := rfl

theorem P_le {D : Nat} (h : D ≤ 64) : ∀ n, P D n ≤ 64 ^ n := by
  intro n
  induction n with
  | zero => simp [P]
  | succ n ih => rw [P_succ, Nat.pow_succ]; exact Nat.mul_le_mul ih (by omega)

theorem P_pos {D : Nat} : ∀ n, n ≤ D → 0 < P D n := by
  intro n
  induction n with
  | zero => simp [P]
  | succ n ih => intro h; rw [P_succ]; exact Nat.mul_pos (ih (by omega)) (by omega)

theorem P_big {D n : Nat} (h : D ≤ 64) (hn : n ≤ 8) : P D n ≤ 281474976710656 :=
  Nat.le_trans (P_le h n) (Nat.le_trans (Nat.pow_le_pow_right (by decide) hn) (by decide))

theorem P_dvd (D n : Nat) : ∀ m, P D n ∣ P D (n + m) := by
  intro m
  induction m with
  | zero => exact Nat.dvd_refl _
  | succ m ih => rw [← Nat.add_assoc, P_succ]; exact Nat.dvd_trans ih (Nat.dvd_mul_right _ _)

/-- Which place a number tells at a step. -/
def at_ (D H i : Nat) : Nat := H / P D i % (D - i)

/-- The cards that are left behind k steps, in rising order. -/
def lf (a : Nat → Nat) : Nat → Nat → Nat
  | 0, j => j
  | k + 1, j => if j < a k then lf a k j else lf a k (j + 1)
/-- The card at a step. -/
def crd (a : Nat → Nat) (k : Nat) : Nat := lf a k (a k)
/-- How many of the first k are less than x. -/
def cnt (c : Nat → Nat) : Nat → Nat → Nat
  | 0, _ => 0
  | k + 1, x => cnt c k x + if c k < x then 1 else 0
/-- Is y among the first k? -/
def gone (c : Nat → Nat) : Nat → Nat → Bool
  | 0, _ => false
  | k + 1, y => gone c k y || c k == y
/-- How many below x are not among the first k. -/
def free (c : Nat → Nat) (k : Nat) : Nat → Nat
  | 0 => 0
  | x + 1 => free c k x + if gone c k x = true then 0 else 1

theorem lf_succ (a : Nat → Nat) (k j : Nat) : lf a (k + 1) j = if j < a k then lf a k j else lf a k (j + 1) := rfl
theorem cnt_succ (c : Nat → Nat) (k x : Nat) : cnt c (k + 1) x = cnt c k x + if c k < x then 1 else 0 := rfl
theorem free_succ (c : Nat → Nat) (k x : Nat) : free c k (x + 1) = free c k x + if gone c k x = true then 0 else 1 := rfl
theorem gone_succ (c : Nat → Nat) (k y : Nat) : gone c (k + 1) y = (gone c k y || c k == y) := rfl

theorem lf_mono (a : Nat → Nat) : ∀ k i j, i < j → lf a k i < lf a k j := by
  intro k
  induction k with
  | zero => intro i j h; exact h
  | succ k ih =>
    intro i j h
    rw [lf_succ, lf_succ]
    by_cases c : i < a k
    · rw [if_pos c]
      by_cases d : j < a k
      · rw [if_pos d]; exact ih i j h
      · rw [if_neg d]; exact ih i (j + 1) (by omega)
    · rw [if_neg c, if_neg (by omega)]; exact ih (i + 1) (j + 1) (by omega)

theorem lf_lt (a : Nat → Nat) (D : Nat) : ∀ k j, j < D - k → lf a k j < D := by
  intro k
  induction k with
  | zero => intro j h; simpa [lf] using h
  | succ k ih =>
    intro j h
    rw [lf_succ]
    split
    · exact ih j (by omega)
    · exact ih (j + 1) (by omega)

theorem lf_cnt (a : Nat → Nat) : ∀ k j, lf a k j = j + cnt (crd a) k (lf a k j) := by
  intro k
  induction k with
  | zero => intro j; rfl
  | succ k ih =>
    intro j
    rw [lf_succ]
    by_cases c : j < a k
    · rw [if_pos c, cnt_succ, if_neg (by have := lf_mono a k _ _ c; unfold crd; omega)]
      exact ih j
    · rw [if_neg c, cnt_succ, if_pos (by have := lf_mono a k (a k) (j + 1) (by omega); unfold crd; omega)]
      have := ih (j + 1)
      omega

theorem lf_fresh (a : Nat → Nat) : ∀ k j i, i < k → lf a k j ≠ crd a i := by
  intro k
  induction k with
  | zero => intro j i h; omega
  | succ k ih =>
    intro j i h
    rw [lf_succ]
    by_cases c : j < a k
    · rw [if_pos c]
      by_cases d : i = k
      · subst d; have := lf_mono a i _ _ c; unfold crd; omega
      · exact ih j i (by omega)
    · rw [if_neg c]
      by_cases d : i = k
      · subst d; have := lf_mono a i (a i) (j + 1) (by omega); unfold crd; omega
      · exact ih (j + 1) i (by omega)

theorem crd_lt {a : Nat → Nat} {D k : Nat} (h : a k < D - k) : crd a k < D := lf_lt a D k _ h
theorem crd_fresh (a : Nat → Nat) {k i : Nat} (h : i < k) : crd a k ≠ crd a i := lf_fresh a k _ i h
theorem crd_rank (a : Nat → Nat) (k : Nat) : crd a k = a k + cnt (crd a) k (crd a k) := lf_cnt a k _

theorem lf_congr {a b : Nat → Nat} : ∀ k, (∀ i, i < k → a i = b i) → ∀ j, lf a k j = lf b k j := by
  intro k
  induction k with
  | zero => intro _ j; rfl
  | succ k ih =>
    intro h j
    have h' := ih (fun i hi => h i (by omega))
    rw [lf_succ, lf_succ, h k (by omega), h' j, h' (j + 1)]
theorem crd_congr {a b : Nat → Nat} {k : Nat} (h : ∀ i, i ≤ k → a i = b i) : crd a k = crd b k := by
  unfold crd
  rw [h k (Nat.le_refl _), lf_congr k (fun i hi => h i (by omega))]
theorem cnt_congr {c d : Nat → Nat} {x : Nat} : ∀ k, (∀ i, i < k → c i = d i) → cnt c k x = cnt d k x := by
  intro k
  induction k with
  | zero => intro _; rfl
  | succ k ih => intro h; rw [cnt_succ, cnt_succ, ih (fun i hi => h i (by omega)), h k (by omega)]

/-- Equal cards were told by equal places. -/
theorem crd_inj {a b : Nat → Nat} {n : Nat} (h : ∀ i, i < n → crd a i = crd b i) : ∀ i, i < n → a i = b i := by
  intro i hi
  have h1 := crd_rank a i
  have h2 := crd_rank b i
  rw [cnt_congr i (fun j hj => h j (by omega)), h i hi] at h1
  omega

theorem gone_iff (c : Nat → Nat) (y : Nat) : ∀ k, gone c k y = true ↔ ∃ i, i < k ∧ c i = y := by
  intro k
  induction k with
  | zero => simp [gone]
  | succ k ih =>
    rw [gone_succ, Bool.or_eq_true, ih, beq_iff_eq]
    constructor
    · rintro (⟨i, h, e⟩ | e)
      · exact ⟨i, by omega, e⟩
      · exact ⟨k, by omega, e⟩
    · rintro ⟨i, h, e⟩
      by_cases d : i = k
      · subst d; exact .inr e
      · exact .inl ⟨i, by omega, e⟩

theorem gone_no {c : Nat → Nat} {k y : Nat} (h : ∀ i, i < k → c i ≠ y) : gone c k y = false := by
  cases e : gone c k y with
  | false => rfl
  | true => obtain ⟨i, hi, e⟩ := (gone_iff c y k).1 e; exact absurd e (h i hi)

theorem free_step (c : Nat → Nat) (k : Nat) (h : ∀ i, i < k → c i ≠ c k) : ∀ x, free c (k + 1) x + (if c k < x then 1 else 0) = free c k x := by
  intro x
  induction x with
  | zero => simp [free]
  | succ x ih =>
    rw [free_succ, free_succ, gone_succ]
    by_cases d : c k = x
    · have g : gone c k x = false := gone_no (fun i hi => by rw [← d]; exact h i hi)
      rw [if_neg (by omega)] at ih
      simp [d, g]
      omega
    · have e : (c k == x) = false := by simpa using d
      rw [e, Bool.or_false]
      by_cases f : c k < x
      · rw [if_pos f] at ih; rw [if_pos (by omega : c k < x + 1)]; omega
      · rw [if_neg f] at ih; rw [if_neg (by omega : ¬ c k < x + 1)]; omega

theorem free_cnt (c : Nat → Nat) : ∀ k, (∀ j, j < k → ∀ i, i < j → c i ≠ c j) → ∀ x, free c k x + cnt c k x = x := by
  intro k
  induction k with
  | zero =>
    intro _ x
    induction x with
    | zero => rfl
    | succ x ih => rw [free_succ]; simp [gone, cnt] at ih ⊢; exact ih
  | succ k ih =>
    intro h x
    have h1 := ih (fun j hj => h j (by omega)) x
    have h2 := free_step c k (h k (by omega)) x
    rw [cnt_succ]
    omega

theorem free_le (c : Nat → Nat) (k : Nat) : ∀ x, free c k x ≤ x := by
  intro x
  induction x with
  | zero => exact Nat.le_refl _
  | succ x ih => rw [free_succ]; split <;> omega
theorem free_mono (c : Nat → Nat) (k x : Nat) : ∀ m, free c k x ≤ free c k (x + m) := by
  intro m
  induction m with
  | zero => exact Nat.le_refl _
  | succ m ih => rw [← Nat.add_assoc, free_succ]; omega

/-- A number's digits: the least one first. -/
def dig (D : Nat) (r : Nat → Nat) : Nat → Nat
  | 0 => 0
  | k + 1 => dig D r k + r k * P D k
/-- The same, m digits from the i-th on, the greatest one first. -/
def up (D : Nat) (r : Nat → Nat) : Nat → Nat → Nat
  | _, 0 => 0
  | i, m + 1 => up D r (i + 1) m * (D - i) + r i

theorem dig_succ (D : Nat) (r : Nat → Nat) (k : Nat) : dig D r (k + 1) = dig D r k + r k * P D k := rfl
theorem up_succ (D : Nat) (r : Nat → Nat) (i m : Nat) : up D r i (m + 1) = up D r (i + 1) m * (D - i) + r i := rfl

theorem up_dig (D : Nat) (r : Nat → Nat) : ∀ m k, dig D r k + up D r k m * P D k = dig D r (k + m) := by
  intro m
  induction m with
  | zero => intro k; simp [up]
  | succ m ih =>
    intro k
    have h := ih (k + 1)
    rw [show k + 1 + m = k + (m + 1) by omega, dig_succ, P_succ] at h
    rw [← h, up_succ, Nat.add_mul, Nat.mul_assoc, Nat.mul_comm (D - k) (P D k)]
    omega

theorem up_zero (D : Nat) (r : Nat → Nat) (n : Nat) : up D r 0 n = dig D r n := by
  have h := up_dig D r n 0
  simpa [dig, P] using h

theorem dig_at (D H : Nat) : ∀ k, dig D (at_ D H) k = H % P D k := by
  intro k
  induction k with
  | zero => simp [dig, P, Nat.mod_one]
  | succ k ih => rw [dig_succ, P_succ, Nat.mod_mul, ih, at_, Nat.mul_comm]

theorem dig_congr {D : Nat} {r s : Nat → Nat} : ∀ k, (∀ i, i < k → r i = s i) → dig D r k = dig D s k := by
  intro k
  induction k with
  | zero => intro _; rfl
  | succ k ih => intro h; rw [dig_succ, dig_succ, ih (fun i hi => h i (by omega)), h k (by omega)]
theorem up_congr {D : Nat} {r s : Nat → Nat} : ∀ m i, (∀ j, i ≤ j → j < i + m → r j = s j) → up D r i m = up D s i m := by
  intro m
  induction m with
  | zero => intro i _; rfl
  | succ m ih => intro i h; rw [up_succ, up_succ, ih (i + 1) (fun j h1 h2 => h j (by omega) (by omega)), h i (Nat.le_refl _) (by omega)]

theorem up_lt {D : Nat} (hD : D ≤ 64) {r : Nat → Nat} : ∀ m i, (∀ j, i ≤ j → j < i + m → r j < 64) → up D r i m < 64 ^ m := by
  intro m
  induction m with
  | zero => intro i _; simp [up]
  | succ m ih =>
    intro i h
    have h1 := ih (i + 1) (fun j h1 h2 => h j (by omega) (by omega))
    have h2 := h i (Nat.le_refl _) (by omega)
    have h3 : up D r (i + 1) m * (D - i) ≤ up D r (i + 1) m * 64 := Nat.mul_le_mul_left _ (by omega)
    rw [up_succ, Nat.pow_succ]
    omega

theorem dig_lt {D : Nat} (hD : D ≤ 64) {r : Nat → Nat} : ∀ k, (∀ j, j < k → r j < 64) → dig D r k < 64 ^ k := by
  intro k
  induction k with
  | zero => intro _; simp [dig]
  | succ k ih =>
    intro h
    have h1 := ih (fun j hj => h j (by omega))
    have h2 := h k (by omega)
    have h3 : r k * P D k ≤ 63 * 64 ^ k := Nat.mul_le_mul (by omega) (P_le hD k)
    rw [dig_succ, Nat.pow_succ]
    omega

theorem at_lt {D H i : Nat} (h : i < D) : at_ D H i < D - i := Nat.mod_lt _ (by omega)

/-- A number's rest by how many hands there are tells the same places. -/
theorem at_rest (D H n i : Nat) (hi : i < n) : at_ D (H % P D n) i = at_ D H i := by
  unfold at_
  rw [← Nat.mod_mul_right_div_self, ← Nat.mod_mul_right_div_self, ← P_succ]
  obtain ⟨m, rfl⟩ : ∃ m, n = i + 1 + m := ⟨n - (i + 1), by omega⟩
  rw [Nat.mod_mod_of_dvd _ (P_dvd D (i + 1) m)]

/-- A hand in one number. -/
def code (c : Nat → Nat) : Nat → Nat
  | 0 => 0
  | k + 1 => code c k * 64 + c k
theorem code_succ (c : Nat → Nat) (k : Nat) : code c (k + 1) = code c k * 64 + c k := rfl
theorem code_lt {c : Nat → Nat} : ∀ n, (∀ i, i < n → c i < 64) → code c n < 64 ^ n := by
  intro n
  induction n with
  | zero => intro _; simp [code]
  | succ n ih =>
    intro h
    have := ih (fun i hi => h i (by omega))
    have := h n (by omega)
    rw [code_succ, Nat.pow_succ]
    omega
theorem code_inj {c d : Nat → Nat} : ∀ n, (∀ i, i < n → c i < 64) → (∀ i, i < n → d i < 64) → code c n = code d n → ∀ i, i < n → c i = d i := by
  intro n
  induction n with
  | zero => intro _ _ _ i hi; omega
  | succ n ih =>
    intro hc hd h i hi
    rw [code_succ, code_succ] at h
    have h1 := hc n (by omega)
    have h2 := hd n (by omega)
    by_cases e : i = n
    · subst e; omega
    · exact ih (fun i hi => hc i (by omega)) (fun i hi => hd i (by omega)) (by omega) i (by omega)

/-- Each rest has a hand of its own. -/
theorem hand_inj {D n H K : Nat} (hH : H < P D n) (hK : K < P D n) (h : ∀ i, i < n → crd (at_ D H) i = crd (at_ D K) i) : H = K := by
  have h1 := dig_congr (D := D) n (crd_inj h)
  rw [dig_at, dig_at, Nat.mod_eq_of_lt hH, Nat.mod_eq_of_lt hK] at h1
  exact h1

/-- The rank of a card among those that were left. -/
def rk (c : Nat → Nat) (i : Nat) : Nat := c i - cnt c i (c i)
theorem rk_crd (a : Nat → Nat) (i : Nat) : rk (crd a) i = a i := by
  have := crd_rank a i
  unfold rk
  omega
theorem rk_free {c : Nat → Nat} {i : Nat} (h : ∀ j, j < i → ∀ l, l < j → c l ≠ c j) : free c i (c i) = rk c i ∧ cnt c i (c i) ≤ c i := by
  have := free_cnt c i h (c i)
  unfold rk
  omega
end Go.Proofs.Ytcfjnflicgifjaa
