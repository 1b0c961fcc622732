/-
  Words with blanks ahead of them, lines with newlines behind them: their pieces. No condition.
-/
import Derived.Test.YtooaojegdhamjaaDoorMathA
namespace Go.Proofs.YtooaojegdhamjaaDoor
open Go.Lib

theorem cutL_cons (c x : UInt8) (l : List UInt8) : cutL c (x :: l) = if x = c then [] :: cutL c l else (x :: (cutL c l).headD []) :: (cutL c l).tail := rfl
theorem cutL_app (c : UInt8) (b : List UInt8) : ∀ a : List UInt8, cutL c (a ++ c :: b) = cutL c a ++ cutL c b
  | [] => by rw [List.nil_append, cutL_cons, if_pos rfl]; rfl
  | x :: a => by
    have ih := cutL_app c b a
    rw [List.cons_append, cutL_cons, cutL_cons, ih]
    by_cases h : x = c
    · rw [if_pos h, if_pos h]; rfl
    · rw [if_neg h, if_neg h]
      have hne := cutL_ne c a
      cases hc : cutL c a with
      | nil => exact absurd hc hne
      | cons y t => rfl
theorem wordsL_app (a b : List UInt8) : wordsL (a ++ 32 :: b) = wordsL a ++ wordsL b := by
  unfold wordsL
  rw [cutL_app, List.filter_append]
theorem wordsL_nil : wordsL [] = [] := rfl
theorem wordsL_snoc (a : List UInt8) : wordsL (a ++ [32]) = wordsL a := by rw [wordsL_app, wordsL_nil, List.append_nil]
theorem wordsL_put (a w : List UInt8) (h : (32 : UInt8) ∉ w) (hw : w ≠ []) : wordsL ((a ++ [32]) ++ w) = wordsL (a ++ [32]) ++ [w] := by
  rw [List.append_assoc, List.singleton_append, wordsL_app, wordsL_snoc, wordsL_end w h hw]

/-- A text of lines, each with its newline. -/
def Lns (t : List UInt8) (L : List (List UInt8)) : Prop := cutL 10 t = L ++ [[]] ∧ (t = [] ∨ ∃ t', t = t' ++ [10])
theorem Lns.nil : Lns [] [] := ⟨rfl, .inl rfl⟩
theorem Lns.put {t : List UInt8} {L : List (List UInt8)} (h : Lns t L) (w : List UInt8) (hw : (10 : UInt8) ∉ w) : Lns (t ++ (w ++ [10])) (L ++ [w]) := by
  refine ⟨?_, .inr ⟨t ++ w, by rw [List.append_assoc]⟩⟩
  rw [← List.append_assoc, cutL_app]
  show cutL 10 (t ++ w) ++ [[]] = _
  congr 1
  rcases h.2 with rfl | ⟨t', rfl⟩
  · have e : ([[]] : List (List UInt8)) = L ++ [[]] := h.1
    have hl := congrArg List.length e
    have : L = [] := by cases L with | nil => rfl | cons _ _ => simp at hl
    subst this
    rw [List.nil_append, cutL_plain 10 w hw]
    rfl
  · have e := h.1
    rw [cutL_app] at e
    have e2 : cutL 10 t' = L := (List.append_inj' e rfl).1
    rw [List.append_assoc, List.singleton_append, cutL_app, e2, cutL_plain 10 w hw]

end Go.Proofs.YtooaojegdhamjaaDoor
