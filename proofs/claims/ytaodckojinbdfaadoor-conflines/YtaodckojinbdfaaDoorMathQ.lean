/-
  Lines put together again; lines cut off behind: what a text tells then.
-/
import Derived.Test.YtaodckojinbdfaaDoorMathK
namespace Go.Proofs.YtaodckojinbdfaaDoor

/-- Texts, a newline behind each. -/
def glueL : List ByteArray → List UInt8
  | [] => []
  | x :: L => x.data.toList ++ 10 :: glueL L
def glue (L : List ByteArray) : ByteArray := mk (glueL L)
theorem glueL_append : ∀ A B, glueL (A ++ B) = glueL A ++ glueL B
  | [], B => rfl
  | x :: A, B => by simp [glueL, glueL_append A B]
theorem glue_snoc (L : List ByteArray) (x : ByteArray) : glue (L ++ [x]) = glue L ++ (x ++ ⟨#[10]⟩) := by
  refine list_inj ?_
  unfold glue
  rw [mk_list, glueL_append, cat_list, cat_list, mk_list]
  simp [glueL]
theorem glue_take {L : List ByteArray} {k : Nat} (h : k < L.length) : glue (L.take (k + 1)) = glue (L.take k) ++ (gt L k ++ ⟨#[10]⟩) := by
  rw [← glue_snoc, gt_eq h, List.take_succ_eq_append_getElem h]
theorem cut_glue : ∀ L : List ByteArray, (∀ x ∈ L, (10 : UInt8) ∉ x.data.toList) → cutL 10 (glueL L) = L.map (·.data.toList) ++ [[]]
  | [], _ => rfl
  | x :: L, h => by
    show cutL 10 (x.data.toList ++ 10 :: glueL L) = _
    rw [cutL_at 10 _ _ (h x (List.mem_cons_self ..)), cut_glue L (fun y hy => h y (List.mem_cons_of_mem _ hy))]
    rfl
theorem lines_glue {L : List ByteArray} (h : ∀ x ∈ L, (10 : UInt8) ∉ x.data.toList) : linesB (glue L) = L := by
  have e : cutB 10 (glue L) = L ++ [⟨#[]⟩] := by
    unfold cutB glue
    rw [mk_list, cut_glue L h, List.map_append, List.map_map]
    have : (mk ∘ fun x : ByteArray => x.data.toList) = id := by funext x; exact mk_of x
    rw [this, List.map_id]
    rfl
  unfold linesB
  rw [e, if_pos]
  · simp
  · rw [gt_eq (by simp)]
    simp
theorem cutL_clean (c : UInt8) : ∀ (l : List UInt8), ∀ x ∈ cutL c l, c ∉ x
  | [], x, h => by
    have : x = [] := by simpa [cutL] using h
    subst this; simp
  | b :: l, x, h => by
    have ih := cutL_clean c l
    unfold cutL at h
    split at h
    · rcases List.mem_cons.1 h with rfl | h
      · simp
      · exact ih x h
    · rename_i hne
      rcases List.mem_cons.1 h with rfl | h
      · have hne' := cutL_ne c l
        cases hc : cutL c l with
        | nil => exact absurd hc hne'
        | cons y t =>
          have := ih y (by rw [hc]; exact List.mem_cons_self ..)
          simp only [List.headD_cons, List.mem_cons, not_or]
          exact ⟨fun e => hne e.symm, this⟩
      · exact ih x (List.mem_of_mem_tail h)
theorem lines_clean (s : ByteArray) : ∀ x ∈ linesB s, (10 : UInt8) ∉ x.data.toList := by
  intro x h
  have h1 : x ∈ cutB 10 s := by
    unfold linesB at h
    split at h
    · exact List.dropLast_subset _ h
    · exact h
  unfold cutB at h1
  obtain ⟨l, hl, rfl⟩ := List.mem_map.1 h1
  rw [mk_list]
  exact cutL_clean 10 _ l hl

def glen : List ByteArray → Nat
  | [] => 0
  | x :: L => x.size + 1 + glen L
theorem glue_len : ∀ L, (glueL L).length = glen L
  | [] => rfl
  | x :: L => by simp [glueL, glen, glue_len L]; omega
theorem glue_size (L : List ByteArray) : (glue L).size = glen L := by rw [← size_list]; unfold glue; rw [mk_list, glue_len]
theorem glen_append : ∀ A B, glen (A ++ B) = glen A + glen B
  | [], B => by simp [glen]
  | x :: A, B => by simp [glen, glen_append A B]; omega
theorem glen_take (L : List ByteArray) (k : Nat) : glen (L.take k) ≤ glen L := by
  have := glen_append (L.take k) (L.drop k)
  rw [List.take_append_drop] at this
  omega
theorem glen_cut (c : UInt8) : ∀ l : List UInt8, glen ((cutL c l).map mk) = l.length + 1
  | [] => rfl
  | b :: l => by
    have ih := glen_cut c l
    unfold cutL
    split
    · show 0 + 1 + glen _ = _
      rw [ih]; simp; omega
    · cases hc : cutL c l with
      | nil => exact absurd hc (cutL_ne c l)
      | cons h t =>
        rw [hc] at ih
        simp only [List.map_cons, glen, List.headD_cons, List.tail_cons] at ih ⊢
        rw [← size_list, mk_list] at ih ⊢
        simp only [List.length_cons]
        omega
theorem glen_lines (s : ByteArray) : glen (linesB s) ≤ s.size + 1 := by
  have h := glen_cut 10 s.data.toList
  rw [size_list] at h
  have h2 : glen (cutB 10 s) = s.size + 1 := h
  unfold linesB
  split
  · rw [List.dropLast_eq_take]
    have := glen_take (cutB 10 s) ((cutB 10 s).length - 1)
    omega
  · omega

/-! ### lines cut off -/
theorem go_take : ∀ (L : List ByteArray) (C : Cf) (k : Nat), goE C L = 0 → goE C (L.take k) = 0
  | [], _, k, _ => by simp [goE]
  | _ :: _, _, 0, _ => rfl
  | l :: r, C, k + 1, h => by
    have h' : (if lineE C (wordsB l) = 0 then goE (lineC C (wordsB l)) r else lineE C (wordsB l)) = 0 := h
    show (if lineE C (wordsB l) = 0 then goE (lineC C (wordsB l)) (r.take k) else lineE C (wordsB l)) = 0
    split at h'
    · rename_i h0; rw [if_pos h0]; exact go_take r _ k h'
    · rename_i h0; exact absurd h' h0
theorem goL_pos : ∀ (L : List ByteArray) (C : Cf) (i : Nat), goE C L ≠ 0 → i + 1 ≤ goL C i L
  | [], _, _, h => absurd rfl h
  | l :: r, C, i, h => by
    have h' : (if lineE C (wordsB l) = 0 then goE (lineC C (wordsB l)) r else lineE C (wordsB l)) ≠ 0 := h
    show i + 1 ≤ (if lineE C (wordsB l) = 0 then goL (lineC C (wordsB l)) (i + 1) r else i + 1)
    split at h'
    · rename_i h0; rw [if_pos h0]; have := goL_pos r _ (i + 1) h'; omega
    · rename_i h0; rw [if_neg h0]; exact Nat.le_refl _
theorem go_far : ∀ (L : List ByteArray) (C : Cf) (i k : Nat), goE C L ≠ 0 → i + k < goL C i L → goE C (L.take k) = 0
  | [], _, _, _, h, _ => absurd rfl h
  | _ :: _, _, _, 0, _, _ => rfl
  | l :: r, C, i, k + 1, h, hl => by
    have h' : (if lineE C (wordsB l) = 0 then goE (lineC C (wordsB l)) r else lineE C (wordsB l)) ≠ 0 := h
    have hl' : i + (k + 1) < (if lineE C (wordsB l) = 0 then goL (lineC C (wordsB l)) (i + 1) r else i + 1) := hl
    show (if lineE C (wordsB l) = 0 then goE (lineC C (wordsB l)) (r.take k) else lineE C (wordsB l)) = 0
    split at h'
    · rename_i h0; rw [if_pos h0] at hl' ⊢; exact go_far r _ (i + 1) k h' (by omega)
    · rename_i h0; rw [if_neg h0] at hl'; omega
theorem go_near : ∀ (L : List ByteArray) (C : Cf) (i k : Nat), goE C L ≠ 0 → goL C i L ≤ i + k → goE C (L.take k) = goE C L ∧ goL C i (L.take k) = goL C i L
  | [], _, _, _, h, _ => absurd rfl h
  | l :: r, C, i, 0, h, hl => by have := goL_pos (l :: r) C i h; omega
  | l :: r, C, i, k + 1, h, hl => by
    have h' : (if lineE C (wordsB l) = 0 then goE (lineC C (wordsB l)) r else lineE C (wordsB l)) ≠ 0 := h
    have hl' : (if lineE C (wordsB l) = 0 then goL (lineC C (wordsB l)) (i + 1) r else i + 1) ≤ i + (k + 1) := hl
    show (if lineE C (wordsB l) = 0 then goE (lineC C (wordsB l)) (r.take k) else lineE C (wordsB l)) = (if lineE C (wordsB l) = 0 then goE (lineC C (wordsB l)) r else lineE C (wordsB l)) ∧
      (if lineE C (wordsB l) = 0 then goL (lineC C (wordsB l)) (i + 1) (r.take k) else i + 1) = (if lineE C (wordsB l) = 0 then goL (lineC C (wordsB l)) (i + 1) r else i + 1)
    split at h'
    · rename_i h0; rw [if_pos h0] at hl'; rw [if_pos h0, if_pos h0, if_pos h0, if_pos h0]; exact go_near r _ (i + 1) k h' (by omega)
    · rename_i h0; rw [if_neg h0, if_neg h0, if_neg h0, if_neg h0]; exact ⟨rfl, rfl⟩

end Go.Proofs.YtaodckojinbdfaaDoor
