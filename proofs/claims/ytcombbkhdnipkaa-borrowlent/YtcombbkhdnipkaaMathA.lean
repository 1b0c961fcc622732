/-
  Handing out one by one over plain numbers: who has one more, and what follows for the parts. Conditions: those of each theorem.
-/
import Derived.Test.YtcombbkhdnipkaaFix
namespace Go.Proofs.Ytcombbkhdnipkaa

/-- The sum of the first n numbers. -/
def sumTo (f : Nat → Int) : Nat → Int
  | 0 => 0
  | n + 1 => sumTo f n + f n

theorem sumTo_le {f : Nat → Int} {n : Nat} {M : Int} (h : ∀ k, k < n → 0 ≤ f k ∧ f k ≤ M) : ∀ k, k ≤ n → 0 ≤ sumTo f k ∧ sumTo f k ≤ M * k := by
  intro k hk
  induction k with
  | zero => simp [sumTo]
  | succ k ih =>
    have := h k (by omega)
    have := ih (by omega)
    simp only [sumTo, Int.natCast_add, Int.mul_add]
    omega

/-- The same numbers, but x at place i. -/
def upd (f : Nat → Int) (i : Nat) (x : Int) : Nat → Int := fun j => if j = i then x else f j

theorem upd_same (f : Nat → Int) (i : Nat) (x : Int) : upd f i x i = x := by simp [upd]
theorem upd_other {f : Nat → Int} {i j : Nat} {x : Int} (h : j ≠ i) : upd f i x j = f j := by simp [upd, h]

theorem sumTo_upd_above (f : Nat → Int) (i : Nat) (x : Int) : ∀ n, n ≤ i → sumTo (upd f i x) n = sumTo f n := by
  intro n hn
  induction n with
  | zero => rfl
  | succ n ih => simp only [sumTo]; rw [ih (by omega), upd_other (by omega)]

theorem sumTo_upd (f : Nat → Int) (i : Nat) (x : Int) : ∀ n, i < n → sumTo (upd f i x) n = sumTo f n - f i + x := by
  intro n hn
  induction n with
  | zero => omega
  | succ n ih =>
    simp only [sumTo]
    rcases Nat.lt_or_eq_of_le (Nat.le_of_lt_succ hn) with h | rfl
    · rw [ih h, upd_other (by omega)]; omega
    · rw [sumTo_upd_above f i x i (Nat.le_refl _), upd_same]; omega

theorem sumTo_congr {f g : Nat → Int} : ∀ n, (∀ k, k < n → f k = g k) → sumTo f n = sumTo g n := by
  intro n h
  induction n with
  | zero => rfl
  | succ n ih => simp only [sumTo]; rw [ih (fun k hk => h k (by omega)), h n (by omega)]

theorem sumTo_mono {f g : Nat → Int} : ∀ n, (∀ k, k < n → f k ≤ g k) → sumTo f n ≤ sumTo g n := by
  intro n h
  induction n with
  | zero => exact Int.le_refl _
  | succ n ih =>
    have h1 := ih (fun k hk => h k (by omega))
    have h2 := h n (by omega)
    simp only [sumTo]; omega

/-- Two lists, one nowhere above the other, whose sums are the same, are the same. -/
theorem sumTo_meet {f g : Nat → Int} : ∀ n, (∀ k, k < n → f k ≤ g k) → sumTo f n = sumTo g n → ∀ k, k < n → f k = g k := by
  intro n h
  induction n with
  | zero => intro _ k hk; omega
  | succ n ih =>
    intro e k hk
    have h1 := sumTo_mono n (fun k hk => h k (by omega))
    have h2 := h n (by omega)
    simp only [sumTo] at e
    rcases Nat.lt_or_eq_of_le (Nat.le_of_lt_succ hk) with h' | rfl
    · exact ih (fun k hk => h k (by omega)) (by omega) k h'
    · omega

theorem exists_below {f g : Nat → Int} : ∀ n, sumTo f n < sumTo g n → ∃ k, k < n ∧ f k < g k := by
  intro n
  induction n with
  | zero => simp [sumTo]
  | succ n ih =>
    simp only [sumTo]
    intro h
    by_cases c : f n < g n
    · exact ⟨n, by omega, c⟩
    · obtain ⟨k, hk, hp⟩ := ih (by omega)
      exact ⟨k, by omega, hp⟩

/-! Quotients held against each other by products. -/

theorem tr_lt {a b c d e f : Int} (hd : 0 < d) (hf : 0 < f) (hb : 0 < b) (h1 : a * d < c * b) (h2 : c * f ≤ e * d) : a * f < e * b := by
  have h3 : a * d * f < c * b * f := Int.mul_lt_mul_of_pos_right h1 hf
  have h4 : c * f * b ≤ e * d * b := Int.mul_le_mul_of_nonneg_right h2 (Int.le_of_lt hb)
  have h5 : a * f * d < e * b * d := by
    have e1 : a * f * d = a * d * f := by rw [Int.mul_assoc, Int.mul_comm f d, ← Int.mul_assoc]
    have e2 : c * b * f = c * f * b := by rw [Int.mul_assoc, Int.mul_comm b f, ← Int.mul_assoc]
    have e3 : e * b * d = e * d * b := by rw [Int.mul_assoc, Int.mul_comm b d, ← Int.mul_assoc]
    omega
  exact Int.lt_of_mul_lt_mul_right h5 (Int.le_of_lt hd)

theorem tr_le {a b c d e f : Int} (hd : 0 < d) (hf : 0 < f) (hb : 0 < b) (h1 : a * d ≤ c * b) (h2 : c * f ≤ e * d) : a * f ≤ e * b := by
  have h3 : a * d * f ≤ c * b * f := Int.mul_le_mul_of_nonneg_right h1 (Int.le_of_lt hf)
  have h4 : c * f * b ≤ e * d * b := Int.mul_le_mul_of_nonneg_right h2 (Int.le_of_lt hb)
  have h5 : a * f * d ≤ e * b * d := by
    have e1 : a * f * d = a * d * f := by rw [Int.mul_assoc, Int.mul_comm f d, ← Int.mul_assoc]
    have e2 : c * b * f = c * f * b := by rw [Int.mul_assoc, Int.mul_comm b f, ← Int.mul_assoc]
    have e3 : e * b * d = e * d * b := by rw [Int.mul_assoc, Int.mul_comm b d, ← Int.mul_assoc]
    omega
  exact Int.le_of_mul_le_mul_right h5 hd

/-- Does i, with one more, have less for what it wants than j with one more? -/
abbrev less (p u : Nat → Int) (i j : Nat) : Prop := (p i + 1) * (u j + 1) < (p j + 1) * (u i + 1)

/-- Who of those from a up to below z that are below their bound has one more. -/
def Best (p h u : Nat → Int) (a z b : Nat) : Prop :=
  a ≤ b ∧ b < z ∧ p b < h b ∧ ∀ j, a ≤ j → j < z → p j < h j → ¬ less p u j b ∧ (j < b → less p u b j)

theorem Best.unique {p h u : Nat → Int} {a z b c : Nat} (h1 : Best p h u a z b) (h2 : Best p h u a z c) : b = c := by
  obtain ⟨a1, a2, a3, a4⟩ := h1
  obtain ⟨b1, b2, b3, b4⟩ := h2
  rcases Nat.lt_trichotomy b c with t | t | t
  · exact absurd ((b4 b a1 a2 a3).2 t) (a4 c b1 b2 b3).1
  · exact t
  · exact absurd ((a4 c b1 b2 b3).2 t) (b4 b a1 a2 a3).1

/-- What the program finds among the first n: -1 if nobody is below its bound. -/
def nxt (p h u : Nat → Int) : Nat → Int
  | 0 => -1
  | k + 1 => if p k < h k ∧ (nxt p h u k < 0 ∨ less p u k (nxt p h u k).toNat) then k else nxt p h u k

theorem nxt_spec {p h u : Nat → Int} {n : Nat} (hu : ∀ j, j < n → 0 ≤ u j) :
    ∀ k, k ≤ n → (nxt p h u k = -1 ∧ ∀ j, j < k → ¬ p j < h j) ∨ ∃ b : Nat, nxt p h u k = b ∧ Best p h u 0 k b := by
  intro k hk
  induction k with
  | zero => exact .inl ⟨rfl, fun j hj => by omega⟩
  | succ k ih =>
    by_cases c : p k < h k
    · rcases ih (by omega) with ⟨e, hno⟩ | ⟨b, e, b1, b2, b3, b4⟩
      · refine .inr ⟨k, ?_, Nat.zero_le _, by omega, c, fun j _ hj hp => ?_⟩
        · simp only [nxt]; rw [if_pos ⟨c, .inl (by omega)⟩]
        · rcases Nat.lt_or_eq_of_le (Nat.le_of_lt_succ hj) with h' | rfl
          · exact absurd hp (hno j h')
          · exact ⟨by unfold less; omega, fun h => by omega⟩
      · have hb0 := hu b (by omega)
        have hk0 := hu k (by omega)
        by_cases l : less p u k b
        · refine .inr ⟨k, ?_, Nat.zero_le _, by omega, c, fun j _ hj hp => ?_⟩
          · simp only [nxt]; rw [if_pos ⟨c, .inr (by rw [e]; exact l)⟩]
          · rcases Nat.lt_or_eq_of_le (Nat.le_of_lt_succ hj) with h' | rfl
            · have hj0 := hu j (by omega)
              have h1 := (b4 j (Nat.zero_le _) h' hp).1
              unfold less at *
              have : (p k + 1) * (u j + 1) < (p j + 1) * (u k + 1) := tr_lt (d := u b + 1) (c := p b + 1) (by omega) (by omega) (by omega) l (by omega)
              exact ⟨by omega, fun _ => this⟩
            · exact ⟨by unfold less; omega, fun h => by omega⟩
        · refine .inr ⟨b, ?_, Nat.zero_le _, by omega, b3, fun j _ hj hp => ?_⟩
          · simp only [nxt]; rw [if_neg, e]
            rw [e]; rintro ⟨_, h1 | h1⟩
            · omega
            · exact l h1
          · rcases Nat.lt_or_eq_of_le (Nat.le_of_lt_succ hj) with h' | rfl
            · exact b4 j (Nat.zero_le _) h' hp
            · exact ⟨l, fun h => by omega⟩
    · have e0 : nxt p h u (k + 1) = nxt p h u k := by simp only [nxt]; rw [if_neg]; rintro ⟨h1, _⟩; exact c h1
      rw [e0]
      rcases ih (by omega) with ⟨e, hno⟩ | ⟨b, e, b1, b2, b3, b4⟩
      · refine .inl ⟨e, fun j hj => ?_⟩
        rcases Nat.lt_or_eq_of_le (Nat.le_of_lt_succ hj) with h' | rfl
        · exact hno j h'
        · exact c
      · refine .inr ⟨b, e, b1, by omega, b3, fun j _ hj hp => ?_⟩
        rcases Nat.lt_or_eq_of_le (Nat.le_of_lt_succ hj) with h' | rfl
        · exact b4 j (Nat.zero_le _) h' hp
        · exact absurd hp c

/-- What the reference finds, from the end: 'r' says what it has behind it. -/
def Seen (p h u : Nat → Int) (k n : Nat) (r : Int) : Prop :=
  (r = -1 ∧ ∀ j, k ≤ j → j < n → ¬ p j < h j) ∨ ∃ b : Nat, r = b ∧ Best p h u k n b

theorem Seen.skip {p h u : Nat → Int} {k n : Nat} {r : Int} (s : Seen p h u (k + 1) n r) (c : ¬ p k < h k) : Seen p h u k n r := by
  rcases s with ⟨e, hno⟩ | ⟨b, e, b1, b2, b3, b4⟩
  · refine .inl ⟨e, fun j hj1 hj2 => ?_⟩
    by_cases t : j = k
    · subst t; exact c
    · exact hno j (by omega) hj2
  · refine .inr ⟨b, e, by omega, b2, b3, fun j hj1 hj2 hp => ?_⟩
    by_cases t : j = k
    · subst t; exact absurd hp c
    · exact b4 j (by omega) hj2 hp

theorem Seen.first {p h u : Nat → Int} {k n : Nat} (s : Seen p h u (k + 1) n (-1)) (hk : k < n) (c : p k < h k) : Seen p h u k n k := by
  rcases s with ⟨_, hno⟩ | ⟨b, e, _⟩
  · refine .inr ⟨k, rfl, Nat.le_refl _, hk, c, fun j hj1 hj2 hp => ?_⟩
    by_cases t : j = k
    · subst t; exact ⟨by unfold less; omega, fun h => by omega⟩
    · exact absurd hp (hno j (by omega) hj2)
  · omega

theorem Seen.keep {p h u : Nat → Int} {k n b : Nat} (s : Seen p h u (k + 1) n b) (l : less p u b k) : Seen p h u k n b := by
  rcases s with ⟨e, _⟩ | ⟨b', e, b1, b2, b3, b4⟩
  · omega
  · obtain rfl : b = b' := by omega
    refine .inr ⟨b, rfl, by omega, b2, b3, fun j hj1 hj2 hp => ?_⟩
    by_cases t : j = k
    · subst t; exact ⟨by unfold less at *; omega, fun _ => l⟩
    · exact b4 j (by omega) hj2 hp

theorem Seen.take {p h u : Nat → Int} {k n b : Nat} (hu : ∀ j, j < n → 0 ≤ u j) (s : Seen p h u (k + 1) n b) (hk : k < n) (c : p k < h k) (l : ¬ less p u b k) : Seen p h u k n k := by
  rcases s with ⟨e, _⟩ | ⟨b', e, b1, b2, b3, b4⟩
  · omega
  · obtain rfl : b = b' := by omega
    refine .inr ⟨k, rfl, Nat.le_refl _, hk, c, fun j hj1 hj2 hp => ?_⟩
    by_cases t : j = k
    · subst t; exact ⟨by unfold less; omega, fun h => by omega⟩
    · have h1 := (b4 j (by omega) hj2 hp).1
      have u1 := hu j hj2
      have u2 := hu b b2
      have u3 := hu k hk
      unfold less at *
      have : (p k + 1) * (u j + 1) ≤ (p j + 1) * (u k + 1) := tr_le (d := u b + 1) (c := p b + 1) (by omega) (by omega) (by omega) (by omega) (by omega)
      exact ⟨by omega, fun h => by omega⟩

/-- The parts behind k rounds. -/
def give (n : Nat) (h u p : Nat → Int) : Nat → Nat → Int
  | 0 => p
  | k + 1 => upd (give n h u p k) (nxt (give n h u p k) h u n).toNat (give n h u p k (nxt (give n h u p k) h u n).toNat + 1)

/-- What is known of what is handed in: nothing is refused. -/
structure Fits (total : Int) (n : Nat) (lo hi want : Nat → Int) : Prop where
  low : 0 ≤ total
  high : total ≤ 4096
  len : n ≤ 16
  each : ∀ k, k < n → 0 ≤ lo k ∧ lo k ≤ hi k ∧ hi k ≤ 4096 ∧ 0 ≤ want k ∧ want k ≤ 1048576
  least : sumTo lo n ≤ total
  most : total ≤ sumTo hi n

/-- What is known behind k rounds. -/
structure Done (n : Nat) (lo hi want : Nat → Int) (k : Nat) (q : Nat → Int) : Prop where
  sum : sumTo q n = sumTo lo n + k
  between : ∀ i, i < n → lo i ≤ q i ∧ q i ≤ hi i
  fair : ∀ i j, i < n → j < n → lo i < q i → q j < hi j → q i * (want j + 1) ≤ (q j + 1) * (want i + 1)
  same : ∀ i j, i < n → j < i → lo i = lo j → hi i = hi j → want i = want j → q i ≤ q j ∧ q j ≤ q i + 1

theorem Done.step {n : Nat} {lo hi want q : Nat → Int} {k b : Nat} (d : Done n lo hi want k q) (hw : ∀ j, j < n → 0 ≤ want j) (hb : Best q hi want 0 n b) : Done n lo hi want (k + 1) (upd q b (q b + 1)) := by
  obtain ⟨_, hbn, hbo, hbb⟩ := hb
  refine ⟨?_, ?_, ?_, ?_⟩
  · rw [sumTo_upd q b _ n hbn, d.sum]; omega
  · intro i hi'
    have := d.between i hi'
    by_cases t : i = b
    · subst t; rw [upd_same]; omega
    · rw [upd_other t]; exact this
  · intro i j hi' hj' h1 h2
    by_cases t : i = b
    · subst t
      by_cases s : j = i
      · subst s
        rw [upd_same] at *
        have := hw j hj'
        exact Int.mul_le_mul_of_nonneg_right (by omega) (by omega)
      · rw [upd_same, upd_other s] at *
        have := (hbb j (Nat.zero_le _) hj' h2).1
        unfold less at this
        omega
    · rw [upd_other t] at *
      by_cases s : j = b
      · subst s
        rw [upd_same] at *
        have h3 := d.fair i j hi' hj' h1 hbo
        have h4 : (q j + 1) * (want i + 1) ≤ (q j + 1 + 1) * (want i + 1) := Int.mul_le_mul_of_nonneg_right (by omega) (by have := hw i hi'; omega)
        omega
      · rw [upd_other s] at *
        exact d.fair i j hi' hj' h1 h2
  · intro i j hi' hj' e1 e2 e3
    have h0 := d.same i j hi' hj' e1 e2 e3
    by_cases t : i = b
    · subst t
      rw [upd_same, upd_other (by omega)]
      by_cases c : q j = q i
      · have h1 := (hbb j (Nat.zero_le _) (by omega) (by omega)).2 hj'
        unfold less at h1
        rw [c, e3] at h1
        omega
      · omega
    · by_cases s : j = b
      · subst s
        rw [upd_same, upd_other t]
        by_cases c : q j = q i + 1
        · have h1 := (hbb i (Nat.zero_le _) hi' (by omega)).1
          unfold less at h1
          rw [c, e3] at h1
          have : (q i + 1) * (want j + 1) < (q i + 1 + 1) * (want j + 1) := Int.mul_lt_mul_of_pos_right (by omega) (by have := hw j (by omega); omega)
          omega
        · omega
      · rw [upd_other t, upd_other s]; exact h0

theorem give_done {n : Nat} {lo hi want : Nat → Int} (he : ∀ k, k < n → 0 ≤ lo k ∧ lo k ≤ hi k ∧ hi k ≤ 4096 ∧ 0 ≤ want k ∧ want k ≤ 1048576) :
    ∀ k : Nat, sumTo lo n + k ≤ sumTo hi n → Done n lo hi want k (give n hi want lo k) ∧ (sumTo lo n + k < sumTo hi n → ∃ b : Nat, nxt (give n hi want lo k) hi want n = b ∧ Best (give n hi want lo k) hi want 0 n b) := by
  have nx : ∀ (k : Nat) (q : Nat → Int), Done n lo hi want k q → sumTo lo n + k < sumTo hi n → ∃ b : Nat, nxt q hi want n = b ∧ Best q hi want 0 n b := by
    intro k q d hlt
    rcases nxt_spec (p := q) (h := hi) (u := want) (n := n) (fun j hj => (he j hj).2.2.2.1) n (Nat.le_refl _) with ⟨_, hno⟩ | h
    · obtain ⟨j, hj, hp⟩ := exists_below (f := q) (g := hi) n (by rw [d.sum]; exact hlt)
      exact absurd hp (hno j hj)
    · exact h
  intro k
  induction k with
  | zero =>
    intro _
    have d : Done n lo hi want 0 (give n hi want lo 0) := by
      refine ⟨by simp [give], fun i hi' => ⟨Int.le_refl _, (he i hi').2.1⟩, fun i j _ _ h => ?_, fun i j _ _ e _ _ => ?_⟩
      · simp only [give] at h; omega
      · simp only [give]; omega
    exact ⟨d, nx 0 _ d⟩
  | succ k ih =>
    intro hk
    obtain ⟨d, hn⟩ := ih (by omega)
    obtain ⟨b, e, hb⟩ := hn (by omega)
    have d2 : Done n lo hi want (k + 1) (give n hi want lo (k + 1)) := by
      simp only [give]
      rw [e]
      exact d.step (fun j hj => (he j hj).2.2.2.1) hb
    exact ⟨d2, nx (k + 1) _ d2⟩

/-- The parts. -/
def part (total : Int) (n : Nat) (lo hi want : Nat → Int) : Nat → Int := give n hi want lo (total - sumTo lo n).toNat

theorem Fits.done {total : Int} {n : Nat} {lo hi want : Nat → Int} (h : Fits total n lo hi want) (k : Nat) (hk : (k : Int) ≤ total - sumTo lo n) : Done n lo hi want k (give n hi want lo k) :=
  (give_done h.each k (by have := h.most; omega)).1
theorem Fits.next {total : Int} {n : Nat} {lo hi want : Nat → Int} (h : Fits total n lo hi want) (k : Nat) (hk : (k : Int) < total - sumTo lo n) :
    ∃ b : Nat, nxt (give n hi want lo k) hi want n = b ∧ Best (give n hi want lo k) hi want 0 n b :=
  (give_done h.each k (by have := h.most; omega)).2 (by have := h.most; omega)
theorem Fits.last {total : Int} {n : Nat} {lo hi want : Nat → Int} (h : Fits total n lo hi want) : Done n lo hi want (total - sumTo lo n).toNat (part total n lo hi want) :=
  h.done _ (by have := h.least; omega)
theorem Fits.sum {total : Int} {n : Nat} {lo hi want : Nat → Int} (h : Fits total n lo hi want) : sumTo (part total n lo hi want) n = total := by
  rw [h.last.sum]; have := h.least; omega
end Go.Proofs.Ytcombbkhdnipkaa
