/-
  Lines that say nothing put in, blanks put around: what a text tells then.
-/
import Derived.Test.YtaodckojinbdfaaDoorMathQ
namespace Go.Proofs.YtaodckojinbdfaaDoor

theorem cutL_snoc (c : UInt8) : ∀ l : List UInt8, cutL c (l ++ [c]) = cutL c l ++ [[]]
  | [] => by simp [cutL]
  | b :: l => by
    have ih := cutL_snoc c l
    rw [List.cons_append, cutL_cons, cutL_cons, ih]
    split
    · rfl
    · cases hc : cutL c l with
      | nil => exact absurd hc (cutL_ne c l)
      | cons h t => rfl
theorem wordsL_snoc (l : List UInt8) : wordsL (l ++ [32]) = wordsL l := by
  unfold wordsL
  rw [cutL_snoc, List.filter_append]
  simp [neL]
def bl2 : ByteArray := ⟨#[32, 32]⟩
def bl3 : ByteArray := ⟨#[32, 32, 32]⟩
def nil1 : ByteArray := ⟨#[32, 32]⟩
def nil2 : ByteArray := ⟨#[32, 35, 32, 108, 101, 118, 101, 108, 32, 120, 32, 101, 120, 101, 109, 112, 116]⟩
theorem words_behind (x : ByteArray) : wordsB (x ++ bl2) = wordsB x := by
  have h : wordsL ((x ++ bl2).data.toList) = wordsL x.data.toList := by
    rw [cat_list, show bl2.data.toList = [32] ++ [32] from rfl, ← List.append_assoc, wordsL_snoc, wordsL_snoc]
  unfold wordsB
  rw [h]
theorem words_ahead (x : ByteArray) : wordsB (bl3 ++ x) = wordsB x := by
  have h : wordsL ((bl3 ++ x).data.toList) = wordsL x.data.toList := by
    rw [cat_list, show bl3.data.toList ++ x.data.toList = 32 :: 32 :: 32 :: x.data.toList from rfl, wordsL_blank, wordsL_blank, wordsL_blank]
  unfold wordsB
  rw [h]
theorem silent1 : silent (wordsB nil1) = true := by kernel_rfl
theorem silent2 : silent (wordsB nil2) = true := by kernel_rfl

/-! ### one line more -/
theorem go_snoc0 : ∀ (M : List ByteArray) (C : Cf) (i : Nat) (x : ByteArray), goE C M = 0 →
    goE C (M ++ [x]) = lineE (goC C M) (wordsB x) ∧ (lineE (goC C M) (wordsB x) = 0 → goC C (M ++ [x]) = lineC (goC C M) (wordsB x)) ∧ (lineE (goC C M) (wordsB x) ≠ 0 → goL C i (M ++ [x]) = i + M.length + 1)
  | [], C, i, x, _ => by
    show (if lineE C (wordsB x) = 0 then (0 : Int) else lineE C (wordsB x)) = lineE C (wordsB x) ∧ (lineE C (wordsB x) = 0 → (if lineE C (wordsB x) = 0 then lineC C (wordsB x) else cf0) = lineC C (wordsB x)) ∧ (lineE C (wordsB x) ≠ 0 → (if lineE C (wordsB x) = 0 then 0 else i + 1) = i + 0 + 1)
    refine ⟨?_, fun h => by rw [if_pos h], fun h => by rw [if_neg h]⟩
    split
    · rename_i h; exact h.symm
    · rfl
  | l :: M, C, i, x, h => by
    have h' : (if lineE C (wordsB l) = 0 then goE (lineC C (wordsB l)) M else lineE C (wordsB l)) = 0 := h
    have hl : lineE C (wordsB l) = 0 := by
      by_cases c : lineE C (wordsB l) = 0
      · exact c
      · rw [if_neg c] at h'; exact h'
    rw [if_pos hl] at h'
    have ih := go_snoc0 M (lineC C (wordsB l)) (i + 1) x h'
    have e1 : goE C (l :: M ++ [x]) = goE (lineC C (wordsB l)) (M ++ [x]) := by show (if lineE C (wordsB l) = 0 then goE (lineC C (wordsB l)) (M ++ [x]) else lineE C (wordsB l)) = _; rw [if_pos hl]
    have e2 : goC C (l :: M ++ [x]) = goC (lineC C (wordsB l)) (M ++ [x]) := by show (if lineE C (wordsB l) = 0 then goC (lineC C (wordsB l)) (M ++ [x]) else cf0) = _; rw [if_pos hl]
    have e3 : goL C i (l :: M ++ [x]) = goL (lineC C (wordsB l)) (i + 1) (M ++ [x]) := by show (if lineE C (wordsB l) = 0 then goL (lineC C (wordsB l)) (i + 1) (M ++ [x]) else i + 1) = _; rw [if_pos hl]
    have e4 : goC C (l :: M) = goC (lineC C (wordsB l)) M := by show (if lineE C (wordsB l) = 0 then goC (lineC C (wordsB l)) M else cf0) = _; rw [if_pos hl]
    rw [e1, e2, e3, e4]
    refine ⟨ih.1, ih.2.1, fun hx => ?_⟩
    rw [ih.2.2 hx]
    simp; omega
theorem go_snoc1 : ∀ (M : List ByteArray) (C : Cf) (i : Nat) (x : ByteArray), goE C M ≠ 0 → goE C (M ++ [x]) = goE C M ∧ goL C i (M ++ [x]) = goL C i M
  | [], _, _, _, h => absurd rfl h
  | l :: M, C, i, x, h => by
    have h' : (if lineE C (wordsB l) = 0 then goE (lineC C (wordsB l)) M else lineE C (wordsB l)) ≠ 0 := h
    show (if lineE C (wordsB l) = 0 then goE (lineC C (wordsB l)) (M ++ [x]) else lineE C (wordsB l)) = (if lineE C (wordsB l) = 0 then goE (lineC C (wordsB l)) M else lineE C (wordsB l)) ∧
      (if lineE C (wordsB l) = 0 then goL (lineC C (wordsB l)) (i + 1) (M ++ [x]) else i + 1) = (if lineE C (wordsB l) = 0 then goL (lineC C (wordsB l)) (i + 1) M else i + 1)
    by_cases hl : lineE C (wordsB l) = 0
    · rw [if_pos hl] at h'
      rw [if_pos hl, if_pos hl, if_pos hl, if_pos hl]
      exact go_snoc1 M _ (i + 1) x h'
    · rw [if_neg hl, if_neg hl, if_neg hl, if_neg hl]
      exact ⟨rfl, rfl⟩
theorem goL_le : ∀ (M : List ByteArray) (C : Cf) (i : Nat), goL C i M ≤ i + M.length
  | [], _, i => Nat.zero_le _
  | l :: M, C, i => by
    show (if lineE C (wordsB l) = 0 then goL (lineC C (wordsB l)) (i + 1) M else i + 1) ≤ i + (M.length + 1)
    split
    · have := goL_le M (lineC C (wordsB l)) (i + 1); omega
    · omega

/-- M: lines; at: of each the line of P that it is, from 1 on, or 0. -/
structure Inv (P M : List ByteArray) (at_ : List Int) : Prop where
  len : at_.length = M.length
  same : goE cf0 M = goE cf0 P
  ok : goE cf0 M = 0 → goC cf0 M = goC cf0 P
  line : goE cf0 M ≠ 0 → at_[goL cf0 0 M - 1]? = some (goL cf0 0 P : Int)
theorem Inv.start : Inv [] [] [] := ⟨rfl, rfl, fun _ => rfl, fun h => absurd rfl h⟩
theorem Inv.idle {P M : List ByteArray} {a : List Int} (h : Inv P M a) {x : ByteArray} (hx : silent (wordsB x) = true) : Inv P (M ++ [x]) (a ++ [0]) := by
  have eE : ∀ C, lineE C (wordsB x) = 0 := fun C => by unfold lineE; rw [if_pos hx]
  have eC : ∀ C, lineC C (wordsB x) = C := fun C => by unfold lineC; rw [if_pos hx]
  by_cases h0 : goE cf0 M = 0
  · obtain ⟨s1, s2, -⟩ := go_snoc0 M cf0 0 x h0
    rw [eE] at s1
    refine ⟨by simp [h.len], by rw [s1, ← h.same, h0], fun _ => ?_, fun hn => absurd s1 hn⟩
    rw [s2 (eE _), eC, h.ok h0]
  · obtain ⟨s1, s2⟩ := go_snoc1 M cf0 0 x h0
    refine ⟨by simp [h.len], by rw [s1, h.same], fun hz => absurd (s1.symm.trans hz) h0, fun _ => ?_⟩
    rw [s2]
    have hl := goL_le M cf0 0
    have hp := goL_pos M cf0 0 h0
    rw [List.getElem?_append_left (by rw [h.len]; omega)]
    exact h.line h0
theorem Inv.next {P M : List ByteArray} {a : List Int} (h : Inv P M a) {x y : ByteArray} (hx : wordsB x = wordsB y) : Inv (P ++ [y]) (M ++ [x]) (a ++ [(P.length : Int) + 1]) := by
  by_cases h0 : goE cf0 M = 0
  · have p0 : goE cf0 P = 0 := h.same.symm.trans h0
    obtain ⟨s1, s2, s3⟩ := go_snoc0 M cf0 0 x h0
    obtain ⟨t1, t2, t3⟩ := go_snoc0 P cf0 0 y p0
    rw [hx, h.ok h0] at s1 s2 s3
    refine ⟨by simp [h.len], s1.trans t1.symm, fun hz => ?_, fun hn => ?_⟩
    · rw [s1] at hz
      rw [s2 hz, t2 hz]
    · rw [s1] at hn
      rw [s3 hn, t3 hn]
      rw [show 0 + M.length + 1 - 1 = a.length by rw [h.len]; omega]
      simp
  · have p0 : goE cf0 P ≠ 0 := fun e => h0 (h.same.trans e)
    obtain ⟨s1, s2⟩ := go_snoc1 M cf0 0 x h0
    obtain ⟨t1, t2⟩ := go_snoc1 P cf0 0 y p0
    refine ⟨by simp [h.len], by rw [s1, t1, h.same], fun hz => absurd (s1.symm.trans hz) h0, fun _ => ?_⟩
    rw [s2, t2]
    have hl := goL_le M cf0 0
    have hp := goL_pos M cf0 0 h0
    rw [List.getElem?_append_left (by rw [h.len]; omega)]
    exact h.line h0

/-- The text so far. -/
structure Lng (L M : List ByteArray) (at_ : List Int) (j q : Nat) : Prop where
  inv : Inv (L.take j) M at_
  clean : ∀ x ∈ M, (10 : UInt8) ∉ x.data.toList
  size : (glue M).size ≤ 50 * j + 18 * q + glen (L.take j)
  count : M.length ≤ 3 * j + q
theorem Lng.start (L : List ByteArray) : Lng L [] [] 0 0 := ⟨(by rw [List.take_zero]; exact Inv.start), fun _ h => (by cases h), (by rw [glue_size]; exact Nat.zero_le _), Nat.zero_le _⟩
theorem Lng.idle {L M : List ByteArray} {a : List Int} {j q : Nat} (h : Lng L M a j q) {x : ByteArray} (hx : silent (wordsB x) = true) (hc : (10 : UInt8) ∉ x.data.toList) (hs : x.size ≤ 17) : Lng L (M ++ [x]) (a ++ [0]) j (q + 1) := by
  refine ⟨h.inv.idle hx, fun y hy => ?_, ?_, ?_⟩
  · rcases List.mem_append.1 hy with h1 | h1
    · exact h.clean y h1
    · rw [List.mem_singleton.1 h1]; exact hc
  · have h1 := h.size
    rw [glue_size] at h1 ⊢
    rw [glen_append]
    show glen M + (x.size + 1 + 0) ≤ _
    omega
  · have := h.count; simp; omega
theorem Lng.next {L M : List ByteArray} {a : List Int} {j q : Nat} (h : Lng L M a j q) (hj : j < L.length) (hq : q ≤ 2) {x : ByteArray} (hw : wordsB x = wordsB (gt L j)) (hc : (10 : UInt8) ∉ x.data.toList) (hs : x.size ≤ (gt L j).size + 5) : Lng L (M ++ [x]) (a ++ [(j : Int) + 1]) (j + 1) 0 := by
  have e : L.take (j + 1) = L.take j ++ [gt L j] := by rw [List.take_succ_eq_append_getElem hj, gt_eq hj]
  have hl : ((L.take j).length : Int) = (j : Int) := by rw [List.length_take]; omega
  have hi := h.inv.next hw
  rw [hl, ← e] at hi
  refine ⟨hi, fun y hy => ?_, ?_, ?_⟩
  · rcases List.mem_append.1 hy with h1 | h1
    · exact h.clean y h1
    · rw [List.mem_singleton.1 h1]; exact hc
  · have h1 := h.size
    rw [glue_size] at h1 ⊢
    rw [glen_append, e, glen_append]
    show glen M + (x.size + 1 + 0) ≤ 50 * (j + 1) + 18 * 0 + (glen (L.take j) + ((gt L j).size + 1 + 0))
    omega
  · have := h.count; simp; omega
theorem glue_line (M : List ByteArray) (x : ByteArray) : glue M ++ (x ++ ⟨#[10]⟩) = glue (M ++ [x]) := (glue_snoc M x).symm
theorem cat3 (a b c : ByteArray) : a ++ b ++ c = a ++ (b ++ c) := list_inj (by rw [cat_list, cat_list, cat_list, cat_list, List.append_assoc])

end Go.Proofs.YtaodckojinbdfaaDoor
