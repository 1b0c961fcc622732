/-
  The method of largest remainders over plain numbers: who is handed one more, and what follows for the parts. Conditions: those of each theorem.
-/
import Derived.Test.YtcombbkhdnipkaaBWalkA
namespace Go.Proofs.Ytcombbkhdnipkaa.Bo

/-- The same numbers, but x at place i. -/
def upd (f : Nat → Int) (i : Nat) (x : Int) : Nat → Int := fun j => if j = i then x else f j

theorem upd_same (f : Nat → Int) (i : Nat) (x : Int) : upd f i x i = x := by simp [upd]
theorem upd_other {f : Nat → Int} {i j : Nat} {x : Int} (h : j ≠ i) : upd f i x j = f j := by simp [upd, h]

theorem sumTo_upd_above (f : Nat → Int) (i : Nat) (x : Int) : ∀ n, n ≤ i → sumTo (upd f i x) n = sumTo f n := by
  intro n hn
  induction n with
  | zero => rfl
  | succ n ih => simp only [sumTo]; rw [ih (by omega), upd_other (by omega)]

theorem sumTo_upd (f : Nat → Int) (i : Nat) (x : Int) : ∀ n, i < n → sumTo (upd f i x) n = sumTo f n - f i + x := by
  intro n hn
  induction n with
  | zero => omega
  | succ n ih =>
    simp only [sumTo]
    rcases Nat.lt_or_eq_of_le (Nat.le_of_lt_succ hn) with h | rfl
    · rw [ih h, upd_other (by omega)]; omega
    · rw [sumTo_upd_above f i x i (Nat.le_refl _), upd_same]; omega

theorem sumTo_congr {f g : Nat → Int} : ∀ n, (∀ k, k < n → f k = g k) → sumTo f n = sumTo g n := by
  intro n h
  induction n with
  | zero => rfl
  | succ n ih => simp only [sumTo]; rw [ih (fun k hk => h k (by omega)), h n (by omega)]

theorem sumTo_mul (f : Nat → Int) (c : Int) : ∀ n, sumTo (fun k => c * f k) n = c * sumTo f n := by
  intro n
  induction n with
  | zero => simp [sumTo]
  | succ n ih => simp only [sumTo]; rw [ih, Int.mul_add]

theorem sumTo_add (f g : Nat → Int) : ∀ n, sumTo (fun k => f k + g k) n = sumTo f n + sumTo g n := by
  intro n
  induction n with
  | zero => simp [sumTo]
  | succ n ih => simp only [sumTo]; rw [ih]; omega

theorem sumTo_zero {f : Nat → Int} : ∀ n, (∀ k, k < n → f k = 0) → sumTo f n = 0 := by
  intro n h
  rw [sumTo_congr (g := fun _ => 0) n h]
  induction n with
  | zero => rfl
  | succ n ih => simp only [sumTo]; rw [ih (fun k hk => h k (by omega))]; rfl

theorem le_sumTo {f : Nat → Int} : ∀ n, (∀ k, k < n → 0 ≤ f k) → 0 ≤ sumTo f n ∧ ∀ k, k < n → f k ≤ sumTo f n := by
  intro n h
  induction n with
  | zero => exact ⟨by simp [sumTo], fun k hk => by omega⟩
  | succ n ih =>
    obtain ⟨h0, h1⟩ := ih (fun k hk => h k (by omega))
    have hn := h n (by omega)
    simp only [sumTo]
    refine ⟨by omega, fun k hk => ?_⟩
    rcases Nat.lt_or_eq_of_le (Nat.le_of_lt_succ hk) with h | rfl
    · have := h1 k h; omega
    · omega

theorem exists_pos {f : Nat → Int} : ∀ n, 0 < sumTo f n → ∃ k, k < n ∧ 0 < f k := by
  intro n
  induction n with
  | zero => simp [sumTo]
  | succ n ih =>
    simp only [sumTo]
    intro h
    by_cases c : 0 < f n
    · exact ⟨n, by omega, c⟩
    · obtain ⟨k, hk, hp⟩ := ih (by omega)
      exact ⟨k, by omega, hp⟩

/-- What 'arg' finds: the greatest, and of the same the first. -/
theorem arg_spec (f : Nat → Int) : ∀ n k, k < n → f k ≤ f (arg f n) ∧ (k < arg f n → f k < f (arg f n)) := by
  intro n
  induction n with
  | zero => intro k hk; omega
  | succ n ih =>
    intro k hk
    simp only [arg]
    split
    · rename_i h
      rcases Nat.lt_or_eq_of_le (Nat.le_of_lt_succ hk) with h' | rfl
      · have := ih k h'; omega
      · exact ⟨by omega, fun h => by omega⟩
    · rename_i h
      rcases Nat.lt_or_eq_of_le (Nat.le_of_lt_succ hk) with h' | rfl
      · exact ih k h'
      · refine ⟨by omega, fun h2 => ?_⟩
        rcases k with _ | k
        · simp [arg] at h2
        · have := arg_lt f (k + 1) (by omega); omega

theorem arg_unique {f : Nat → Int} {n i : Nat} (hi : i < n) (h : ∀ k, k < n → f k ≤ f i ∧ (k < i → f k < f i)) : arg f n = i := by
  have ha := arg_lt f n (by omega)
  have h1 := h (arg f n) ha
  have h2 := arg_spec f n i hi
  rcases Nat.lt_trichotomy (arg f n) i with c | c | c
  · have := h1.2 c; omega
  · exact c
  · have := h2.2 c; omega

/-- The parts and the rests behind j rounds: the greatest rest's part is one more, and its rest is x. -/
def hand (x : Int) (n : Nat) (p r : Nat → Int) : Nat → (Nat → Int) × (Nat → Int)
  | 0 => (p, r)
  | j + 1 => (upd (hand x n p r j).1 (arg (hand x n p r j).2 n) ((hand x n p r j).1 (arg (hand x n p r j).2 n) + 1), upd (hand x n p r j).2 (arg (hand x n p r j).2 n) x)

/-- Who was handed one more behind j rounds. -/
def given (n : Nat) (p r : Nat → Int) : Nat → Nat → Prop
  | 0, _ => False
  | j + 1, k => k = arg (hand 0 n p r j).2 n ∨ given n p r j k

/-- What is known behind j rounds, at one place. -/
structure Done (n : Nat) (p r : Nat → Int) (j : Nat) : Prop where
  yes : ∀ k, k < n → given n p r j k → (hand 0 n p r j).1 k = p k + 1 ∧ (hand 0 n p r j).2 k = 0 ∧ 0 < r k
  no : ∀ k, k < n → ¬ given n p r j k → (hand 0 n p r j).1 k = p k ∧ (hand 0 n p r j).2 k = r k
  ahead : ∀ i k, i < n → k < n → given n p r j i → ¬ given n p r j k → r k < r i ∨ (r k = r i ∧ i < k)
  sum : sumTo (hand 0 n p r j).1 n = sumTo p n + j
  left : ∀ m W : Int, 0 ≤ W → (∀ k, k < n → r k ≤ W) → m * W ≤ sumTo r n → (m - j) * W ≤ sumTo (hand 0 n p r j).2 n

theorem done_pos {n : Nat} {p r : Nat → Int} {j : Nat} {m W : Int} (d : Done n p r j) (hr : ∀ k, k < n → 0 ≤ r k ∧ r k ≤ W) (hW : 0 < W) (hm : m * W ≤ sumTo r n) (hj : (j : Int) < m) :
    0 < n ∧ 0 < (hand 0 n p r j).2 (arg (hand 0 n p r j).2 n) ∧ ¬ given n p r j (arg (hand 0 n p r j).2 n) := by
  have h1 := d.left m W (by omega) (fun k hk => (hr k hk).2) hm
  have h2 : 0 < (m - j) * W := Int.mul_pos (by omega) hW
  obtain ⟨k, hk, hp⟩ := exists_pos n (Int.lt_of_lt_of_le h2 h1)
  have h3 := arg_spec (hand 0 n p r j).2 n k hk
  refine ⟨by omega, by omega, fun hg => ?_⟩
  have := d.yes _ (arg_lt _ _ (by omega)) hg
  omega

theorem done {n : Nat} {p r : Nat → Int} {m W : Int} (hr : ∀ k, k < n → 0 ≤ r k ∧ r k ≤ W) (hW : 0 < W) (hm : m * W ≤ sumTo r n) : ∀ j : Nat, (j : Int) ≤ m → Done n p r j := by
  intro j
  induction j with
  | zero =>
    intro _
    refine ⟨fun k _ h => absurd h (by simp [given]), fun k _ _ => ⟨rfl, rfl⟩, fun i k _ _ h => absurd h (by simp [given]), by simp [hand], fun m' W' _ _ h => ?_⟩
    simpa [hand] using h
  | succ j ih =>
    intro hj
    have d := ih (by omega)
    obtain ⟨hn, hpos, hng⟩ := done_pos d hr hW hm (by omega)
    have hlt := arg_lt (hand 0 n p r j).2 n hn
    have hsp := arg_spec (hand 0 n p r j).2 n
    have hno := d.no _ hlt hng
    have e1 : (hand 0 n p r (j + 1)).1 = upd (hand 0 n p r j).1 (arg (hand 0 n p r j).2 n) ((hand 0 n p r j).1 (arg (hand 0 n p r j).2 n) + 1) := rfl
    have e2 : (hand 0 n p r (j + 1)).2 = upd (hand 0 n p r j).2 (arg (hand 0 n p r j).2 n) 0 := rfl
    have eg : ∀ k, given n p r (j + 1) k ↔ (k = arg (hand 0 n p r j).2 n ∨ given n p r j k) := fun k => Iff.rfl
    generalize hi : arg (hand 0 n p r j).2 n = i at *
    constructor
    · intro k hk hg
      rw [e1, e2]
      by_cases c : k = i
      · subst c; rw [upd_same, upd_same]; exact ⟨by omega, rfl, by omega⟩
      · rw [upd_other c, upd_other c]
        exact d.yes k hk (((eg k).1 hg).resolve_left c)
    · intro k hk hg
      rw [eg] at hg
      have c : k ≠ i := fun h => hg (.inl h)
      rw [e1, e2, upd_other c, upd_other c]
      exact d.no k hk (fun h => hg (.inr h))
    · intro a k ha hk hga hgk
      rw [eg] at hga hgk
      have c : k ≠ i := fun h => hgk (.inl h)
      have hk' := d.no k hk (fun h => hgk (.inr h))
      rcases hga with rfl | hga
      · have h1 := hsp k hk
        rw [hk'.2, hno.2] at h1
        omega
      · exact d.ahead a k ha hk hga (fun h => hgk (.inr h))
    · rw [e1, sumTo_upd _ _ _ _ hlt, d.sum]; simp; omega
    · intro m' W' hW' hr' hm'
      rw [e2, sumTo_upd _ _ _ _ hlt]
      have h1 := d.left m' W' hW' hr' hm'
      have h2 := hr' i hlt
      have h3 : (m' - (j + 1 : Nat)) * W' = (m' - j) * W' - W' := by
        rw [Int.natCast_add, ← Int.sub_sub, Int.sub_mul (m' - (j : Int))]; simp
      rw [h3, hno.2]; omega

/-- Whether what was handed out is marked by 0 or by x below 0 does not matter. -/
theorem hand_mark {n : Nat} {p r : Nat → Int} {m W : Int} (x : Int) (hx : x ≤ 0) (hr : ∀ k, k < n → 0 ≤ r k ∧ r k ≤ W) (hW : 0 < W) (hm : m * W ≤ sumTo r n) : ∀ j : Nat, (j : Int) ≤ m →
    (hand x n p r j).1 = (hand 0 n p r j).1 ∧ ∀ k, k < n → (given n p r j k → (hand x n p r j).2 k = x) ∧ (¬ given n p r j k → (hand x n p r j).2 k = r k) := by
  intro j
  induction j with
  | zero => intro _; exact ⟨rfl, fun k _ => ⟨fun h => absurd h (by simp [given]), fun _ => rfl⟩⟩
  | succ j ih =>
    intro hj
    obtain ⟨h1, h2⟩ := ih (by omega)
    have d : Done n p r j := done hr hW hm j (by omega)
    obtain ⟨hn, hpos, hng⟩ := done_pos d hr hW hm (by omega)
    have hlt := arg_lt (hand 0 n p r j).2 n hn
    have hno := d.no _ hlt hng
    have ea : arg (hand x n p r j).2 n = arg (hand 0 n p r j).2 n := by
      refine arg_unique hlt fun k hk => ?_
      have hs := arg_spec (hand 0 n p r j).2 n k hk
      have hk2 := h2 k hk
      rw [(h2 _ hlt).2 hng]
      rw [hno.2] at hs
      by_cases c : given n p r j k
      · rw [hk2.1 c]
        have := (d.yes k hk c).2.1
        omega
      · rw [hk2.2 c]
        rw [(d.no k hk c).2] at hs
        exact hs
    constructor
    · simp only [hand]; rw [ea, h1]
    · intro k hk
      simp only [hand, given]
      rw [ea]
      by_cases c : k = arg (hand 0 n p r j).2 n
      · constructor
        · intro _; rw [c, upd_same]
        · intro h; exact absurd (Or.inl c) h
      · rw [upd_other c]
        exact ⟨fun h => (h2 k hk).1 (h.resolve_left c), fun h => (h2 k hk).2 (fun h' => h (.inr h'))⟩

/-- Rests that are all taken so many times lead to the same parts. -/
theorem arg_scale {f g : Nat → Int} {t : Int} (ht : 0 < t) : ∀ n, (∀ k, k < n → g k = t * f k) → arg g n = arg f n := by
  intro n h
  rcases Nat.eq_zero_or_pos n with rfl | hn
  · rfl
  · have hlt := arg_lt f n hn
    refine arg_unique hlt fun k hk => ?_
    have hs := arg_spec f n k hk
    rw [h k hk, h _ hlt]
    exact ⟨Int.mul_le_mul_of_nonneg_left hs.1 (by omega), fun c => Int.mul_lt_mul_of_pos_left (hs.2 c) ht⟩

theorem hand_scale {n : Nat} {p q r s : Nat → Int} {t : Int} (ht : 0 < t) (hn : 0 < n) (hp : ∀ k, k < n → q k = p k) (hs : ∀ k, k < n → s k = t * r k) : ∀ j, 
    (∀ k, k < n → (hand 0 n q s j).1 k = (hand 0 n p r j).1 k) ∧ (∀ k, k < n → (hand 0 n q s j).2 k = t * (hand 0 n p r j).2 k) := by
  intro j
  induction j with
  | zero => exact ⟨hp, hs⟩
  | succ j ih =>
    have ea := arg_scale ht n ih.2
    have hlt := arg_lt (hand 0 n p r j).2 n hn
    simp only [hand]
    rw [ea]
    refine ⟨fun k hk => ?_, fun k hk => ?_⟩
    · by_cases c : k = arg (hand 0 n p r j).2 n
      · rw [c, upd_same, upd_same, ih.1 _ hlt]
      · rw [upd_other c, upd_other c, ih.1 k hk]
    · by_cases c : k = arg (hand 0 n p r j).2 n
      · rw [c, upd_same, upd_same]; simp
      · rw [upd_other c, upd_other c, ih.2 k hk]

/-- Each one's quota, rounded down; what it lost; how much is left over; the parts. -/
def quo (total : Int) (n : Nat) (f : Nat → Int) : Nat → Int := fun k => total * f k / sumTo f n
def rem (total : Int) (n : Nat) (f : Nat → Int) : Nat → Int := fun k => total * f k % sumTo f n
def over (total : Int) (n : Nat) (f : Nat → Int) : Int := total - sumTo (quo total n f) n
def part (total : Int) (n : Nat) (f : Nat → Int) : Nat → Int := (hand 0 n (quo total n f) (rem total n f) (over total n f).toNat).1

/-- What may be split: nothing is refused. -/
structure Fits (total : Int) (n : Nat) (f : Nat → Int) : Prop where
  lo : 0 ≤ total
  hi : total ≤ 4096
  len : n ≤ 16
  each : ∀ k, k < n → 0 ≤ f k ∧ f k ≤ 10000
  some : 0 < sumTo f n

theorem Fits.of {total : Int} {n : Nat} {f : Nat → Int} (h : refI total n f = 0) : Fits total n f := by
  obtain ⟨h1, h2, h3, h4⟩ := refI_zero h
  have := (le_sumTo n (fun k hk => (h3 k hk).1)).1
  exact ⟨h1.1, h1.2, h2, h3, by omega⟩

theorem Fits.none {total : Int} {n : Nat} {f : Nat → Int} (h : Fits total n f) : refI total n f = 0 := by
  have h1 := h.lo; have h2 := h.hi; have h3 := h.len; have h4 := h.some
  unfold refI
  rw [if_neg (by omega), if_neg (by omega), if_neg, if_neg (by omega)]
  rintro ⟨k, hk, c⟩
  have := h.each k hk
  omega

section
variable {total : Int} {n : Nat} {f : Nat → Int}

theorem Fits.pos (h : Fits total n f) : 0 < n := by
  rcases Nat.eq_zero_or_pos n with rfl | h'
  · have := h.some; simp [sumTo] at this
  · exact h'

theorem Fits.prod (h : Fits total n f) (k : Nat) (hk : k < n) : 0 ≤ total * f k ∧ total * f k ≤ 40960000 := by
  have h1 := h.each k hk
  refine ⟨Int.mul_nonneg h.lo h1.1, ?_⟩
  have : total * f k ≤ 4096 * 10000 := Int.mul_le_mul h.hi h1.2 h1.1 (by decide)
  omega

theorem Fits.sumHi (h : Fits total n f) : sumTo f n ≤ 160000 := by
  have := (sumTo_le h.each n (Nat.le_refl _)).2
  have := h.len
  omega

theorem Fits.rem (h : Fits total n f) (k : Nat) : 0 ≤ rem total n f k ∧ rem total n f k < sumTo f n :=
  ⟨Int.emod_nonneg _ (by have := h.some; omega), Int.emod_lt_of_pos _ h.some⟩

theorem Fits.quo (h : Fits total n f) (k : Nat) (hk : k < n) : 0 ≤ quo total n f k ∧ quo total n f k ≤ 4096 := by
  refine ⟨Int.ediv_nonneg (h.prod k hk).1 (by have := h.some; omega), ?_⟩
  have h1 : f k ≤ sumTo f n := (le_sumTo n (fun k hk => (h.each k hk).1)).2 k hk
  have h2 : total * f k ≤ total * sumTo f n := Int.mul_le_mul_of_nonneg_left h1 h.lo
  have h3 : Ytcombbkhdnipkaa.Bo.quo total n f k ≤ total := Int.ediv_le_of_le_mul h.some h2
  have := h.hi
  omega

theorem quo_rem (total : Int) (n : Nat) (f : Nat → Int) (k : Nat) : sumTo f n * quo total n f k + rem total n f k = total * f k := Int.mul_ediv_add_emod _ _

theorem over_rem (total : Int) (n : Nat) (f : Nat → Int) : over total n f * sumTo f n = sumTo (rem total n f) n := by
  have h1 : sumTo (fun k => sumTo f n * quo total n f k + rem total n f k) n = sumTo (fun k => total * f k) n := sumTo_congr n fun k _ => quo_rem total n f k
  rw [sumTo_add (fun k => sumTo f n * quo total n f k) (rem total n f), sumTo_mul, sumTo_mul f total] at h1
  unfold over
  rw [Int.sub_mul, Int.mul_comm (sumTo (quo total n f) n)]
  omega

theorem Fits.over (h : Fits total n f) : 0 ≤ over total n f ∧ over total n f ≤ 4096 := by
  have h1 := (le_sumTo n (fun k hk => (h.rem k).1)).1
  rw [← over_rem] at h1
  have h2 := (le_sumTo n (fun k hk => (h.quo k hk).1)).1
  refine ⟨?_, by unfold Ytcombbkhdnipkaa.Bo.over; have := h.hi; omega⟩
  by_cases c : 0 ≤ Ytcombbkhdnipkaa.Bo.over total n f
  · exact c
  · have := Int.mul_neg_of_neg_of_pos (Int.not_le.mp c) h.some
    omega

theorem Fits.done (h : Fits total n f) (j : Nat) (hj : (j : Int) ≤ Ytcombbkhdnipkaa.Bo.over total n f) : Done n (Ytcombbkhdnipkaa.Bo.quo total n f) (Ytcombbkhdnipkaa.Bo.rem total n f) j :=
  Ytcombbkhdnipkaa.Bo.done (m := Ytcombbkhdnipkaa.Bo.over total n f) (W := sumTo f n) (fun k _ => ⟨(h.rem k).1, Int.le_of_lt (h.rem k).2⟩) h.some (by rw [over_rem]; exact Int.le_refl _) j hj

/-- The parts are between the quotas' bounds in each round. -/
theorem Fits.handed (h : Fits total n f) (j : Nat) (hj : (j : Int) ≤ Ytcombbkhdnipkaa.Bo.over total n f) (k : Nat) (hk : k < n) :
    0 ≤ (hand 0 n (Ytcombbkhdnipkaa.Bo.quo total n f) (Ytcombbkhdnipkaa.Bo.rem total n f) j).1 k ∧ (hand 0 n (Ytcombbkhdnipkaa.Bo.quo total n f) (Ytcombbkhdnipkaa.Bo.rem total n f) j).1 k ≤ 4097 := by
  have d := h.done j hj
  have hq := h.quo k hk
  by_cases c : given n (Ytcombbkhdnipkaa.Bo.quo total n f) (Ytcombbkhdnipkaa.Bo.rem total n f) j k
  · have := (d.yes k hk c).1; omega
  · have := (d.no k hk c).1; omega
end
end Go.Proofs.Ytcombbkhdnipkaa.Bo
