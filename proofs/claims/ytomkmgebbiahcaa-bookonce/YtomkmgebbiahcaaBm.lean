/-
  Books: what Find, Begin, Move and Count answer, and what stays so. No condition.
-/
import Derived.Test.YtomkmgebbiahcaaBas
namespace Go.Proofs.Ytomkmgebbiahcaa
open Go.RowKit
/-- The first one of that number, or none. -/
def fI (d : Int) : List En → Nat
  | [] => 0
  | t :: L => if t.id = d then 0 else fI d L + 1
theorem fI_le (d : Int) : ∀ L, fI d L ≤ L.length
  | [] => Nat.le_refl _
  | t :: L => by have := fI_le d L; unfold fI; split <;> simp; omega
def fB (d : Int) (L : List En) : Bool := decide (fI d L < L.length)
def fE (d : Int) (L : List En) : En := ge L (fI d L)
theorem fI_at {d : Int} : ∀ {L : List En}, fI d L < L.length → (ge L (fI d L)).id = d
  | [], h => absurd h (Nat.not_lt_zero _)
  | t :: L, h => by
    unfold fI at h ⊢
    split at h
    · rename_i e; rw [if_pos e]; exact e
    · rename_i e; rw [if_neg e, ge_cons_succ]; exact fI_at (by simpa using h)
theorem fI_no {d : Int} : ∀ {L : List En} {k : Nat}, k < fI d L → (ge L k).id ≠ d
  | [], _, h => absurd h (Nat.not_lt_zero _)
  | t :: L, k, h => by
    unfold fI at h
    split at h
    · exact absurd h (Nat.not_lt_zero _)
    · rename_i e
      cases k with
      | zero => exact e
      | succ k => rw [ge_cons_succ]; exact fI_no (by omega)
theorem fI_is {d : Int} {L : List En} {k : Nat} (h : k < L.length) (hn : ∀ j, j < k → (ge L j).id ≠ d) (he : (ge L k).id = d) : fI d L = k := by
  rcases Nat.lt_trichotomy (fI d L) k with c | c | c
  · exact absurd (fI_at (Nat.lt_trans c h)) (hn _ c)
  · exact c
  · exact absurd he (fI_no c)
theorem fI_none {d : Int} {L : List En} (hn : ∀ j, j < L.length → (ge L j).id ≠ d) : fI d L = L.length := by
  rcases Nat.lt_or_ge (fI d L) L.length with c | c
  · exact absurd (fI_at c) (hn _ c)
  · exact Nat.le_antisymm (fI_le d L) c
theorem ge_out {L : List En} {k : Nat} (h : L.length ≤ k) : ge L k = enZ := by
  unfold ge; rw [List.getD_eq_getElem?_getD, List.getElem?_eq_none h]; rfl
theorem fE_no {d : Int} {L : List En} (h : fB d L = false) : fE d L = enZ := ge_out (by have := of_decide_eq_false h; omega)
theorem ge_append_left {L M : List En} {k : Nat} (h : k < L.length) : ge (L ++ M) k = ge L k := by
  unfold ge; rw [List.getD_eq_getElem?_getD, List.getD_eq_getElem?_getD, List.getElem?_append_left h]
theorem ge_append_len (L : List En) (t : En) : ge (L ++ [t]) L.length = t := by
  unfold ge; simp
theorem ge_set (L : List En) (i k : Nat) (t : En) : ge (L.set i t) k = if i = k ∧ k < L.length then t else ge L k := by
  unfold ge
  rw [List.getD_eq_getElem?_getD, List.getD_eq_getElem?_getD, List.getElem?_set]
  by_cases h : i = k
  · subst h
    by_cases h2 : i < L.length
    · simp [h2]
    · simp [h2]
  · simp [h]
/-- What Begin answers. -/
def okE (x : En) : Prop := 0 ≤ x.id ∧ x.id ≤ 999999999 ∧ 1 ≤ x.ph ∧ x.ph ≤ 3
def bgE (x : En) (L : List En) : Int := if 0 ≤ x.id ∧ x.id ≤ 999999999 ∧ 1 ≤ x.ph ∧ x.ph ≤ 3 then (if fB x.id L = true then 5 else 0) else 1
def bgL (x : En) (L : List En) : List En := if bgE x L = 0 then L ++ [x] else []
/-- What Move answers. -/
def mvE (d p : Int) (L : List En) : Int := if fB d L = true then (if p < 1 ∨ 3 < p ∨ p ≤ (fE d L).ph then 9 else 0) else 6
def mvL (d p : Int) (L : List En) : List En := if mvE d p L = 0 then L.set (fI d L) { fE d L with ph := p } else []
theorem bg_yes {x : En} {L : List En} (h : bgE x L = 0) : okE x ∧ fB x.id L = false := by
  unfold bgE at h
  split at h
  · rename_i c
    split at h
    · cases h
    · rename_i e; exact ⟨c, by simpa using e⟩
  · cases h
theorem mv_yes {d p : Int} {L : List En} (h : mvE d p L = 0) : fB d L = true ∧ 1 ≤ p ∧ p ≤ 3 ∧ (fE d L).ph < p := by
  unfold mvE at h
  split at h
  · rename_i c
    split at h
    · cases h
    · rename_i e; exact ⟨c, by omega, by omega, by omega⟩
  · cases h
/-- How many are in a phase, among the first k. -/
def cnt (L : List En) (p : Int) : Nat → Int
  | 0 => 0
  | k + 1 => cnt L p k + (if (ge L k).ph = p then 1 else 0)
theorem cnt_lo (L : List En) (p : Int) : ∀ k, 0 ≤ cnt L p k
  | 0 => Int.le_refl _
  | k + 1 => by have := cnt_lo L p k; unfold cnt; split <;> omega
theorem cnt_hi (L : List En) (p : Int) : ∀ k, cnt L p k ≤ k
  | 0 => Int.le_refl _
  | k + 1 => by have := cnt_hi L p k; unfold cnt; split <;> omega
theorem cnt_sum {L : List En} : ∀ {k : Nat}, (∀ j, j < k → 1 ≤ (ge L j).ph ∧ (ge L j).ph ≤ 3) → cnt L 1 k + cnt L 2 k + cnt L 3 k = k
  | 0, _ => rfl
  | k + 1, h => by
    have h1 := cnt_sum (L := L) (k := k) (fun j hj => h j (by omega))
    have h2 := h k (by omega)
    unfold cnt
    generalize (ge L k).ph = p at *
    have : p = 1 ∨ p = 2 ∨ p = 3 := by omega
    rcases this with rfl | rfl | rfl <;> simp <;> omega
/-- No number twice, phases that are phases. -/
structure Gd (L : List En) : Prop where
  one : ∀ i j, i < j → j < L.length → (ge L i).id ≠ (ge L j).id
  ph : ∀ j, j < L.length → 1 ≤ (ge L j).ph ∧ (ge L j).ph ≤ 3
theorem Gd.nil : Gd [] := ⟨fun _ _ _ h => absurd h (Nat.not_lt_zero _), fun _ h => absurd h (Nat.not_lt_zero _)⟩
theorem fB_no {d : Int} {L : List En} (h : fB d L = false) {k : Nat} (hk : k < L.length) : (ge L k).id ≠ d := fI_no (by have := of_decide_eq_false h; have := fI_le d L; omega)
theorem fB_yes {d : Int} {L : List En} (h : fB d L = true) : fI d L < L.length := of_decide_eq_true h
theorem Gd.begin {x : En} {L : List En} (g : Gd L) (h : bgE x L = 0) : Gd (L ++ [x]) := by
  obtain ⟨ho, hb⟩ := bg_yes h
  refine ⟨fun i j hij hj => ?_, fun j hj => ?_⟩
  · simp at hj
    rcases Nat.lt_or_ge j L.length with c | c
    · rw [ge_append_left c, ge_append_left (by omega)]; exact g.one i j hij c
    · obtain rfl : j = L.length := by omega
      rw [ge_append_len, ge_append_left hij]
      exact fB_no hb hij
  · simp at hj
    rcases Nat.lt_or_ge j L.length with c | c
    · rw [ge_append_left c]; exact g.ph j c
    · obtain rfl : j = L.length := by omega
      rw [ge_append_len]; exact ⟨ho.2.2.1, ho.2.2.2⟩
theorem find_begin {x : En} {L : List En} (h : bgE x L = 0) : fI x.id (L ++ [x]) = L.length ∧ fE x.id (L ++ [x]) = x ∧ fB x.id (L ++ [x]) = true := by
  obtain ⟨ho, hb⟩ := bg_yes h
  have e : fI x.id (L ++ [x]) = L.length := fI_is (by simp) (fun j hj => by rw [ge_append_left hj]; exact fB_no hb hj) (by rw [ge_append_len])
  refine ⟨e, ?_, ?_⟩
  · unfold fE; rw [e, ge_append_len]
  · unfold fB; rw [e]; simp
theorem mv_ids {d p : Int} {L : List En} (k : Nat) : (ge (L.set (fI d L) { fE d L with ph := p }) k).id = (ge L k).id := by
  rw [ge_set]
  split
  · rename_i c; rw [← c.1]; rfl
  · rfl
theorem find_move {d p : Int} {L : List En} (h : mvE d p L = 0) : fE d (L.set (fI d L) { fE d L with ph := p }) = { fE d L with ph := p } ∧ fB d (L.set (fI d L) { fE d L with ph := p }) = true := by
  obtain ⟨hb, -⟩ := mv_yes h
  have hl := fB_yes hb
  have e : fI d (L.set (fI d L) { fE d L with ph := p }) = fI d L := fI_is (by simpa using hl) (fun j hj => by rw [mv_ids]; exact fI_no hj) (by rw [mv_ids]; exact fI_at hl)
  refine ⟨?_, ?_⟩
  · unfold fE; rw [show fI d (L.set (fI d L) { ge L (fI d L) with ph := p }) = fI d L from e, ge_set, if_pos ⟨rfl, hl⟩]
  · unfold fB; rw [e]; simpa using hl
theorem Gd.move {d p : Int} {L : List En} (g : Gd L) (h : mvE d p L = 0) : Gd (L.set (fI d L) { fE d L with ph := p }) := by
  obtain ⟨hb, h1, h2, h3⟩ := mv_yes h
  refine ⟨fun i j hij hj => ?_, fun j hj => ?_⟩
  · rw [mv_ids, mv_ids]; exact g.one i j hij (by simpa using hj)
  · rw [ge_set]
    split
    · exact ⟨h1, h2⟩
    · exact g.ph j (by simpa using hj)
end Go.Proofs.Ytomkmgebbiahcaa
