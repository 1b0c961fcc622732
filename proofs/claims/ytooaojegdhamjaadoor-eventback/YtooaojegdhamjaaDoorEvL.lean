/-
  A line's first word and what stands behind it. No condition.
-/
import Derived.Test.YtooaojegdhamjaaDoorMathB
import Derived.Lib.TrimByte
import Derived.Lib.Join
namespace Go.Proofs.YtooaojegdhamjaaDoor
open Go.Lib

/-- The line without the blanks ahead. -/
def trL (l : List UInt8) : List UInt8 := l.dropWhile (· == 32)
/-- Its first word, and what stands behind that and one blank. -/
def fsL (l : List UInt8) : List UInt8 := (trL l).takeWhile (· != 32)
def rsL (l : List UInt8) : List UInt8 := ((trL l).dropWhile (· != 32)).drop 1

theorem tw_at {c : UInt8} : ∀ {p : List UInt8} {r : List UInt8}, c ∉ p → (p ++ c :: r).takeWhile (· != c) = p ∧ (p ++ c :: r).dropWhile (· != c) = c :: r
  | [], r, _ => by simp
  | x :: p, r, h => by
    have hx : x ≠ c := fun e => h (by rw [e]; exact List.mem_cons_self ..)
    have hp : c ∉ p := fun e => h (List.mem_cons_of_mem _ e)
    obtain ⟨a, b⟩ := tw_at (r := r) hp
    have hb : (x != c) = true := by simpa using hx
    rw [List.cons_append, List.takeWhile_cons, List.dropWhile_cons, hb, if_pos rfl, if_pos rfl, a, b]
    exact ⟨rfl, rfl⟩
theorem tw_all {c : UInt8} : ∀ {p : List UInt8}, c ∉ p → p.takeWhile (· != c) = p ∧ p.dropWhile (· != c) = []
  | [], _ => ⟨rfl, rfl⟩
  | x :: p, h => by
    have hx : x ≠ c := fun e => h (by rw [e]; exact List.mem_cons_self ..)
    have hp : c ∉ p := fun e => h (List.mem_cons_of_mem _ e)
    obtain ⟨a, b⟩ := tw_all hp
    have hb : (x != c) = true := by simpa using hx
    rw [List.takeWhile_cons, List.dropWhile_cons, hb, if_pos rfl, if_pos rfl, a, b]
    exact ⟨rfl, rfl⟩
/-- A text is parted at its first blank, or has none. -/
theorem part (l : List UInt8) : (∃ p r, l = p ++ 32 :: r ∧ (32 : UInt8) ∉ p) ∨ (32 : UInt8) ∉ l := by
  induction l with
  | nil => exact .inr (by simp)
  | cons x l ih =>
    by_cases hx : x = 32
    · subst hx; exact .inl ⟨[], l, rfl, by simp⟩
    · rcases ih with ⟨p, r, rfl, hp⟩ | h
      · refine .inl ⟨x :: p, r, rfl, fun h => ?_⟩
        rcases List.mem_cons.1 h with e | e
        · exact hx e.symm
        · exact hp e
      · refine .inr fun h2 => ?_
        rcases List.mem_cons.1 h2 with e | e
        · exact hx e.symm
        · exact h e
theorem trL_head : ∀ l : List UInt8, ∀ b, (trL l).head? = some b → b ≠ 32
  | [], b, h => by simp [trL] at h
  | x :: l, b, h => by
    unfold trL at h
    rw [List.dropWhile_cons] at h
    by_cases hx : x = 32
    · subst hx
      rw [if_pos (by simp)] at h
      exact trL_head l b h
    · rw [if_neg (by simpa using hx)] at h
      simp at h
      subst h
      exact hx
theorem trL_words : ∀ l : List UInt8, wordsL (trL l) = wordsL l
  | [] => rfl
  | x :: l => by
    unfold trL
    rw [List.dropWhile_cons]
    by_cases hx : x = 32
    · subst hx
      rw [if_pos (by simp), wordsL_blank]
      exact trL_words l
    · rw [if_neg (by simpa using hx)]
/-- What a line's first word is, and its words. -/
theorem first_cases (l : List UInt8) : (fsL l = [] ∧ rsL l = [] ∧ trL l = [] ∧ wordsL l = []) ∨ (fsL l ≠ [] ∧ (32 : UInt8) ∉ fsL l ∧ wordsL l = fsL l :: wordsL (rsL l) ∧ (trL l = fsL l ++ 32 :: rsL l ∨ (trL l = fsL l ∧ rsL l = []))) := by
  have hh := trL_head l
  have hw := trL_words l
  unfold fsL rsL
  generalize trL l = t at *
  rcases part t with ⟨p, r, rfl, hp⟩ | ht
  · obtain ⟨a, b⟩ := tw_at (r := r) hp
    rw [a, b, ← hw]
    have hne : p ≠ [] := fun e => by subst e; exact hh 32 (by simp) rfl
    exact .inr ⟨hne, hp, wordsL_at p r hp hne, .inl rfl⟩
  · obtain ⟨a, b⟩ := tw_all ht
    rw [a, b, ← hw]
    by_cases h0 : t = []
    · subst h0
      exact .inl ⟨rfl, rfl, rfl, rfl⟩
    · exact .inr ⟨h0, ht, wordsL_end t ht h0, .inr ⟨rfl, rfl⟩⟩
theorem trL_len (l : List UInt8) : (trL l).length ≤ l.length := by
  unfold trL
  exact (List.dropWhile_sublist _).length_le
theorem part_len (l : List UInt8) : (fsL l).length + (rsL l).length ≤ l.length := by
  have := trL_len l
  rcases first_cases l with ⟨a, b, _, _⟩ | ⟨_, _, _, a | ⟨a, b⟩⟩
  · rw [a, b]; simp
  · rw [a] at this; simp at this; omega
  · rw [a] at this; rw [b]; simp; omega
/-- No blank ahead, and a word: the parts are plain. -/
theorem first_at {p r : List UInt8} (hp : (32 : UInt8) ∉ p) (hne : p ≠ []) : fsL (p ++ 32 :: r) = p ∧ rsL (p ++ 32 :: r) = r := by
  have ht : trL (p ++ 32 :: r) = p ++ 32 :: r := by
    cases p with
    | nil => exact absurd rfl hne
    | cons x p =>
      have hx : x ≠ 32 := fun e => hp (by rw [e]; exact List.mem_cons_self ..)
      unfold trL
      rw [List.cons_append, List.dropWhile_cons, if_neg (by simpa using hx)]
  unfold fsL rsL
  rw [ht, (tw_at hp).1, (tw_at hp).2]
  exact ⟨rfl, rfl⟩
theorem first_alone {p : List UInt8} (hp : (32 : UInt8) ∉ p) (hne : p ≠ []) : fsL p = p ∧ rsL p = [] := by
  have ht : trL p = p := by
    cases p with
    | nil => exact absurd rfl hne
    | cons x p =>
      have hx : x ≠ 32 := fun e => hp (by rw [e]; exact List.mem_cons_self ..)
      unfold trL
      rw [List.dropWhile_cons, if_neg (by simpa using hx)]
  unfold fsL rsL
  rw [ht, (tw_all hp).1, (tw_all hp).2]
  exact ⟨rfl, rfl⟩

/-- Words with one blank between two are read as they are. -/
theorem words_join : ∀ (x : List UInt8) (r : List (List UInt8)), (∀ y ∈ x :: r, (32 : UInt8) ∉ y ∧ y ≠ []) → wordsL (x ++ joinTail [32] r) = x :: r
  | x, [], h => by
    have := h x (List.mem_cons_self ..)
    rw [show joinTail [32] [] = [] from rfl, List.append_nil]
    exact wordsL_end x this.1 this.2
  | x, y :: r, h => by
    have := h x (List.mem_cons_self ..)
    rw [show joinTail [32] (y :: r) = 32 :: (y ++ joinTail [32] r) by simp [joinTail], wordsL_at x _ this.1 this.2, words_join y r fun z hz => h z (List.mem_cons_of_mem _ hz)]
/-- The words of a line, and the blanks between them, are no longer than the line. -/
theorem words_len (n : Nat) : ∀ l : List UInt8, l.length ≤ n → (join (wordsL l) [32]).length ≤ l.length := by
  induction n with
  | zero =>
    intro l h
    have : l = [] := List.eq_nil_of_length_eq_zero (by omega)
    subst this
    exact Nat.le_refl _
  | succ n ih =>
    intro l h
    have ht := trL_len l
    rcases first_cases l with ⟨_, _, _, a⟩ | ⟨a0, _, a, b | ⟨b, b2⟩⟩
    · rw [a]; exact Nat.zero_le _
    · rw [a]
      rw [b] at ht
      simp only [List.length_append, List.length_cons] at ht
      have hp : 1 ≤ (fsL l).length := by cases hf : fsL l with | nil => exact absurd hf a0 | cons _ _ => simp
      have := ih (rsL l) (by omega)
      revert this
      cases wordsL (rsL l) with
      | nil => intro _; rw [join_cons]; simp [joinTail]; omega
      | cons y r =>
        intro this
        rw [join_cons] at this ⊢
        rw [show joinTail [32] (y :: r) = 32 :: (y ++ joinTail [32] r) by simp [joinTail]]
        simp only [List.length_append, List.length_cons] at this ⊢
        omega
    · rw [a, b2, show wordsL [] = [] from rfl, join_cons, show joinTail [32] [] = [] from rfl, List.append_nil]
      rw [b] at ht
      exact ht

/-- Each byte a turned to b. -/
def mpL (a b : UInt8) (l : List UInt8) : List UInt8 := l.map fun x => if x = a then b else x
theorem mpL_len (a b : UInt8) (l : List UInt8) : (mpL a b l).length = l.length := by unfold mpL; simp
theorem mpL_back {a b : UInt8} : ∀ l : List UInt8, b ∉ l → mpL b a (mpL a b l) = l
  | [], _ => rfl
  | x :: l, h => by
    have hx : x ≠ b := fun e => h (by rw [e]; exact List.mem_cons_self ..)
    have := mpL_back (a := a) l fun e => h (List.mem_cons_of_mem _ e)
    unfold mpL at this ⊢
    rw [List.map_cons, List.map_cons, this]
    by_cases hxa : x = a
    · rw [if_pos hxa, if_pos rfl, hxa]
    · rw [if_neg hxa, if_neg hx]
theorem mpL_none {a b : UInt8} (hab : a ≠ b) (l : List UInt8) : a ∉ mpL a b l := fun h => by
  unfold mpL at h
  obtain ⟨x, _, e⟩ := List.mem_map.1 h
  by_cases hx : x = a
  · rw [if_pos hx] at e; exact hab e.symm
  · rw [if_neg hx] at e; exact hx e
theorem mpL_id {a b : UInt8} (l : List UInt8) (h : a ∉ l) : mpL a b l = l := by
  unfold mpL
  induction l with
  | nil => rfl
  | cons x l ih =>
    rw [List.map_cons, ih fun e => h (List.mem_cons_of_mem _ e), if_neg fun e => h (by rw [e]; exact List.mem_cons_self ..)]
theorem mpL_at {a b : UInt8} {p r : List UInt8} (h : a ∉ p) : mpL a b (p ++ a :: r) = p ++ b :: mpL a b r := by
  unfold mpL
  rw [List.map_append, List.map_cons, if_pos rfl]
  have := mpL_id (b := b) p h
  unfold mpL at this
  rw [this]
theorem mpL_nil {a b : UInt8} {l : List UInt8} : mpL a b l = [] ↔ l = [] := by unfold mpL; simp
end Go.Proofs.YtooaojegdhamjaaDoor
