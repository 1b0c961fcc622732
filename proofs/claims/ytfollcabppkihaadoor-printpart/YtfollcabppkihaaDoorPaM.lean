/-
  A configuration without its last levels, or its last schemas: it is formed, and its text is no longer. No condition.
-/
import Derived.Test.YtfollcabppkihaaDoorPrN
namespace Go.Proofs.YtfollcabppkihaaDoor
open Go.RowKit Go.Lib

/-- The first l levels and the first s schemas. -/
def partC (C : Cf) (l s : Nat) : Cf := ⟨C.total, C.period, C.perSeat, C.most, C.levels.take l, C.schemas.take s⟩
theorem part_formed {C : Cf} (h : Formed C) (l s : Nat) : Formed (partC C l s) :=
  ⟨h.t, h.p, h.s, Nat.le_trans (by unfold partC; simp only; rw [List.length_take]; omega) h.nl, fun x hx => h.lv x (List.mem_of_mem_take hx), h.pl.sublist (List.take_sublist _ _),
    Nat.le_trans (by unfold partC; simp only; rw [List.length_take]; omega) h.ns, fun x hx => h.sc x (List.mem_of_mem_take hx), h.ps.sublist (List.take_sublist _ _)⟩
theorem text_sub {A B : List (List ByteArray)} (h : A.Sublist B) : (textL A).length ≤ (textL B).length := by
  induction h with
  | slnil => exact Nat.le_refl _
  | cons a _ ih => rw [textL_cons, List.length_append]; omega
  | cons_cons a _ ih => simp only [textL_cons, List.length_append]; omega
theorem flat_sub {A B : List Sc} (h : A.Sublist B) : (A.flatMap scLs).Sublist (B.flatMap scLs) := by
  induction h with
  | slnil => exact List.Sublist.refl _
  | cons a _ ih => rw [List.flatMap_cons]; exact ih.trans (List.sublist_append_right _ _)
  | cons_cons a _ ih => rw [List.flatMap_cons, List.flatMap_cons]; exact List.Sublist.append (List.Sublist.refl _) ih
theorem part_words (C : Cf) (l s : Nat) : (cfWs (partC C l s)).Sublist (cfWs C) := by
  have e : numWs (partC C l s) = numWs C := rfl
  unfold cfWs
  rw [e]
  exact List.Sublist.append (List.Sublist.refl _) (List.Sublist.append ((List.take_sublist _ _).map _) (flat_sub (List.take_sublist _ _)))
theorem part_out (C : Cf) (l s : Nat) : (outB (partC C l s)).size ≤ (outB C).size := by
  have := text_sub (part_words C l s)
  unfold outB textB
  rw [mk_size, mk_size]
  exact this
/-- What is asked of the two texts. -/
theorem part_print {C : Cf} (h : Formed C) (l s : Nat) (he : printE C = 0) : printE (partC C l s) = 0 ∧ (printS (partC C l s)).size ≤ (printS C).size := by
  have h1 := part_out C l s
  have hs : (outB C).size ≤ 65536 := by
    unfold printE at he
    rw [formed_iff.2 h, if_pos rfl] at he
    by_cases hb : 65536 < (outB C).size
    · rw [if_pos hb] at he; exact absurd he (by decide)
    · omega
  have e : printE (partC C l s) = 0 := by
    unfold printE
    rw [formed_iff.2 (part_formed h l s), if_pos rfl, if_neg (by omega)]
  refine ⟨e, ?_⟩
  unfold printS
  rw [if_pos e, if_pos he]
  exact h1
/-- Parts of what is read. -/
theorem LvR.first {w : World} {a : Option Addr} {L : List Lv} (h : LvR w a L) (n : Nat) : LvR w a (L.take n) := fun hn => by
  rw [List.length_take] at hn
  obtain ⟨b, off, e, hb, hc⟩ := h (by omega)
  exact ⟨b, off, e, hb, fun k hk j hj => by rw [List.getElem_take]; exact hc k (by rw [List.length_take] at hk; omega) j hj⟩
theorem ScR.first {w : World} {a : Option Addr} {L : List Sc} {V : List Value} (h : ScR w a L V) (n : Nat) : ScR w a (L.take n) (V.take n) := fun hn => by
  rw [List.length_take] at hn
  obtain ⟨b, off, e, hb, hc⟩ := h (by omega)
  exact ⟨b, off, e, hb, fun k hk hk' j hj => by rw [List.getElem_take, List.getElem_take]; exact hc k (by rw [List.length_take] at hk; omega) (by rw [List.length_take] at hk'; omega) j hj⟩
end Go.Proofs.YtfollcabppkihaaDoor
