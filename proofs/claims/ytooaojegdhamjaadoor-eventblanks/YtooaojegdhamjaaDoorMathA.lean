/-
  The pieces of a text between bytes of one kind: that strings.Split's and strings.FieldsFunc's are these. No condition.
-/
import Derived.Lib.FieldsP
import Derived.Lib.SplitLaws
import Derived.Lib.Split
namespace Go.Proofs.YtooaojegdhamjaaDoor
open Go.Lib

/-- The pieces between bytes c. -/
def cutL (c : UInt8) : List UInt8 → List (List UInt8)
  | [] => [[]]
  | b :: l => if b = c then [] :: cutL c l else (b :: (cutL c l).headD []) :: (cutL c l).tail

theorem cutL_ne (c : UInt8) : ∀ l, cutL c l ≠ []
  | [] => by simp [cutL]
  | b :: l => by unfold cutL; split <;> simp
theorem cutL_plain (c : UInt8) : ∀ l, c ∉ l → cutL c l = [l]
  | [], _ => rfl
  | b :: l, h => by
    have h1 : ¬ b = c := fun e => h (by rw [e]; exact List.mem_cons_self ..)
    have h2 : c ∉ l := fun e => h (List.mem_cons_of_mem _ e)
    unfold cutL
    rw [if_neg h1, cutL_plain c l h2]
    rfl
theorem cutL_at (c : UInt8) : ∀ (p r : List UInt8), c ∉ p → cutL c (p ++ c :: r) = p :: cutL c r
  | [], r, _ => by rw [List.nil_append, cutL, if_pos rfl]
  | b :: p, r, h => by
    have h1 : ¬ b = c := fun e => h (by rw [e]; exact List.mem_cons_self ..)
    have h2 : c ∉ p := fun e => h (List.mem_cons_of_mem _ e)
    rw [List.cons_append, cutL, if_neg h1, cutL_at c p r h2]
    rfl
theorem cutL_length (c : UInt8) : ∀ l, (cutL c l).length = l.count c + 1
  | [] => rfl
  | b :: l => by
    have ih := cutL_length c l
    unfold cutL
    by_cases h : b = c
    · subst h
      rw [if_pos rfl, List.length_cons, ih, List.count_cons_self]
    · rw [if_neg h, List.length_cons, List.length_tail, ih, List.count_cons_of_ne h]
      rfl

theorem index_one_eq (c : UInt8) : ∀ l : List UInt8, index l [c] = indexByte l c
  | [] => rfl
  | b :: l => by
    rw [index, indexByte, index_one_eq c l]
    by_cases h : b = c
    · subst h; simp [List.isPrefixOf]
    · have h1 : ([c].isPrefixOf (b :: l)) = false := by simp [List.isPrefixOf, Ne.symm h]
      have h2 : (b == c) = false := by simpa using h
      rw [h1, h2]

theorem hit_parts {l : List UInt8} {c : UInt8} {i : Nat} (h : indexByte l c = (i : Int)) : l = l.take i ++ c :: l.drop (i + 1) ∧ c ∉ l.take i := by
  obtain ⟨h1, h2⟩ := indexByte_some h
  have hi : i < l.length := (List.getElem?_eq_some_iff.1 h1).1
  have hc : l[i] = c := (List.getElem?_eq_some_iff.1 h1).2
  refine ⟨?_, fun hm => ?_⟩
  · rw [← hc, ← List.drop_eq_getElem_cons hi, List.take_append_drop]
  · obtain ⟨k, hk, e⟩ := List.getElem_of_mem hm
    rw [List.length_take] at hk
    refine h2 k (by omega) ?_
    rw [List.getElem_take] at e
    rw [List.getElem?_eq_getElem (by omega), e]
theorem miss_parts {l : List UInt8} {c : UInt8} (h : indexByte l c = -1) : c ∉ l := fun hm => by
  obtain ⟨k, hk, e⟩ := List.getElem_of_mem hm
  exact indexByte_none h k (by rw [List.getElem?_eq_getElem hk, e])

theorem splitK_all (c : UInt8) : ∀ (k : Nat) (l : List UInt8), l.count c ≤ k → splitK [c] 0 k l = cutL c l
  | 0, l, h => by
    rw [cutL_plain c l (List.count_eq_zero.1 (by omega))]
    rfl
  | k + 1, l, h => by
    unfold splitK
    rw [index_one_eq]
    by_cases hm : indexByte l c = -1
    · rw [if_pos (by rw [hm]; rfl), cutL_plain c l (miss_parts hm)]
    · rw [if_neg (fun e => hm (eq_of_beq e))]
      have hge := indexByte_ge l c
      obtain ⟨i, hi⟩ : ∃ i : Nat, indexByte l c = (i : Int) := ⟨(indexByte l c).toNat, by omega⟩
      obtain ⟨e1, e2⟩ := hit_parts hi
      rw [hi, Int.toNat_natCast, Nat.add_zero]
      show l.take i :: splitK [c] 0 k (l.drop (i + 1)) = _
      have hcnt : (l.drop (i + 1)).count c ≤ k := by
        have : l.count c = (l.take i ++ c :: l.drop (i + 1)).count c := congrArg (List.count c) e1
        rw [List.count_append, List.count_cons_self] at this
        omega
      rw [splitK_all c k _ hcnt]
      conv => rhs; rw [e1]
      rw [cutL_at c _ _ e2]
theorem splitK_many (c : UInt8) : ∀ (k : Nat) (l : List UInt8), k ≤ l.count c → (splitK [c] 0 k l).length = k + 1
  | 0, l, _ => rfl
  | k + 1, l, h => by
    unfold splitK
    rw [index_one_eq]
    by_cases hm : indexByte l c = -1
    · have := List.count_eq_zero.2 (miss_parts hm); omega
    · rw [if_neg (fun e => hm (eq_of_beq e))]
      have hge := indexByte_ge l c
      obtain ⟨i, hi⟩ : ∃ i : Nat, indexByte l c = (i : Int) := ⟨(indexByte l c).toNat, by omega⟩
      obtain ⟨e1, e2⟩ := hit_parts hi
      rw [hi, Int.toNat_natCast, Nat.add_zero, List.length_cons]
      have hcnt : k ≤ (l.drop (i + 1)).count c := by
        have : l.count c = (l.take i ++ c :: l.drop (i + 1)).count c := congrArg (List.count c) e1
        rw [List.count_append, List.count_cons_self, List.count_eq_zero.2 e2] at this
        omega
      exact congrArg (· + 1) (splitK_many c k _ hcnt)

/-- A text of these bytes. -/
def mk (l : List UInt8) : ByteArray := ⟨l.toArray⟩
theorem mk_list (l : List UInt8) : (mk l).data.toList = l := by simp [mk]
theorem mk_of (s : ByteArray) : mk s.data.toList = s := by unfold mk; simp
theorem mk_inj {a b : List UInt8} (h : mk a = mk b) : a = b := by rw [← mk_list a, h, mk_list]
theorem list_inj {a b : ByteArray} (h : a.data.toList = b.data.toList) : a = b := by rw [← mk_of a, h, mk_of]

/-- The pieces of a text between bytes c. -/
def cutB (c : UInt8) (s : ByteArray) : List ByteArray := (cutL c s.data.toList).map mk
theorem cutB_len (c : UInt8) (s : ByteArray) : (cutB c s).length = s.data.toList.count c + 1 := by unfold cutB; rw [List.length_map, cutL_length]

theorem splitB_mk (c : UInt8) (k : Nat) (s : ByteArray) : splitB ⟨#[c]⟩ 0 k s = (splitK [c] 0 k s.data.toList).map mk := by
  have h := splitB_data ⟨#[c]⟩ 0 k s
  have : (splitB ⟨#[c]⟩ 0 k s) = ((splitB ⟨#[c]⟩ 0 k s).map (·.data.toList)).map mk := by
    rw [List.map_map]
    have : (mk ∘ fun x : ByteArray => x.data.toList) = id := by funext x; exact mk_of x
    rw [this, List.map_id]
  rw [this, h]
theorem splitB_all' (c : UInt8) (k : Nat) (s : ByteArray) (h : s.data.toList.count c ≤ k) : splitB ⟨#[c]⟩ 0 k s = cutB c s := by
  rw [splitB_mk, splitK_all c k _ h]
  rfl
theorem splitB_many (c : UInt8) (k : Nat) (s : ByteArray) (h : k ≤ s.data.toList.count c) : (splitB ⟨#[c]⟩ 0 k s).length = k + 1 := by
  rw [splitB_mk, List.length_map, splitK_many c k _ h]

/-! ### the pieces that are not empty -/
def neL (l : List UInt8) : Bool := !l.isEmpty
def wordsL (l : List UInt8) : List (List UInt8) := (cutL 32 l).filter neL
/-- The pieces, none empty, between blanks. -/
def wordsB (s : ByteArray) : List ByteArray := (wordsL s.data.toList).map mk

theorem blank_N (n b0 b1 b2 b3 : Nat) (hn : 1 ≤ n) :
    ((decodeN n b0 b1 b2 b3).1 = 32 ↔ b0 = 32) ∧ (b0 = 32 → (decodeN n b0 b1 b2 b3).2 = 1) ∧ 1 ≤ (decodeN n b0 b1 b2 b3).2 ∧ (decodeN n b0 b1 b2 b3).2 ≤ 4 ∧ (decodeN n b0 b1 b2 b3).2 ≤ n ∧
    (2 ≤ (decodeN n b0 b1 b2 b3).2 → b1 / 64 = 2) ∧ (3 ≤ (decodeN n b0 b1 b2 b3).2 → b2 / 64 = 2) ∧ (4 ≤ (decodeN n b0 b1 b2 b3).2 → b3 / 64 = 2) := by
  unfold decodeN
  repeat' split
  all_goals (refine ⟨⟨fun h => ?_, fun h => ?_⟩, fun h => ?_, ?_, ?_, ?_, fun h => ?_, fun h => ?_, fun h => ?_⟩ <;> (try dsimp only at *) <;> omega)

theorem get_bang (s : ByteArray) (i : Nat) (h : i < s.size) : s.data.toList[i]? = some (s.get! i) := by
  have hl : i < s.data.toList.length := by rw [Array.length_toList]; exact h
  rw [List.getElem?_eq_getElem hl]
  congr 1
  show s.data[i] = s.data[i]!
  rw [getElem!_pos s.data i h]

/-- What a rune that begins at pos is. -/
theorem blank_at (s : ByteArray) (pos : Nat) (h : pos < s.size) :
    ((((Utf8.decode s pos).1 == 32) = true) → s.data.toList[pos]? = some 32 ∧ (Utf8.decode s pos).2 = 1) ∧
    ((((Utf8.decode s pos).1 == 32) = false) → ∀ j, pos ≤ j → j < pos + (Utf8.decode s pos).2 → s.data.toList[j]? ≠ some 32) ∧
    1 ≤ (Utf8.decode s pos).2 ∧ pos + (Utf8.decode s pos).2 ≤ s.size := by
  rw [decode_at]
  obtain ⟨h1, h2, h3, h4, h5, h6, h7, h8⟩ := blank_N (s.size - pos) (s.get! pos).toNat (s.get! (pos + 1)).toNat (s.get! (pos + 2)).toNat (s.get! (pos + 3)).toNat (by omega)
  generalize decodeN (s.size - pos) (s.get! pos).toNat (s.get! (pos + 1)).toNat (s.get! (pos + 2)).toNat (s.get! (pos + 3)).toNat = D at *
  refine ⟨fun e => ?_, fun e j hj hk => ?_, h3, by omega⟩
  · have e1 := h1.1 (eq_of_beq e)
    refine ⟨?_, h2 e1⟩
    rw [get_bang s pos h]
    congr 1
    exact UInt8.toNat_inj.1 e1
  · have e1 : ¬ D.1 = 32 := fun h => by rw [h] at e; exact absurd e (by decide)
    rw [get_bang s j (by omega)]
    intro hc
    have hc' : (s.get! j).toNat = 32 := by rw [Option.some.inj hc]; rfl
    rcases (by omega : j = pos ∨ j = pos + 1 ∨ j = pos + 2 ∨ j = pos + 3) with rfl | rfl | rfl | rfl
    · exact e1 (h1.2 hc')
    · have := h6 (by omega); omega
    · have := h7 (by omega); omega
    · have := h8 (by omega); omega

theorem wordsL_blank (l : List UInt8) : wordsL (32 :: l) = wordsL l := by
  unfold wordsL
  rw [cutL, if_pos rfl, List.filter_cons]
  rfl
theorem wordsL_at (p r : List UInt8) (h : (32 : UInt8) ∉ p) (hp : p ≠ []) : wordsL (p ++ 32 :: r) = p :: wordsL r := by
  unfold wordsL
  rw [cutL_at 32 p r h, List.filter_cons, if_pos (by unfold neL; cases p with | nil => exact absurd rfl hp | cons _ _ => rfl)]
theorem wordsL_end (p : List UInt8) (h : (32 : UInt8) ∉ p) (hp : p ≠ []) : wordsL p = [p] := by
  unfold wordsL
  rw [cutL_plain 32 p h, List.filter_cons, if_pos (by unfold neL; cases p with | nil => exact absurd rfl hp | cons _ _ => rfl)]
  rfl

def isBlank (r : Nat) : Bool := r == 32

theorem ext_list (s : ByteArray) (a b : Nat) : s.extract a b = mk ((s.data.toList.drop a).take (b - a)) := by
  apply list_inj
  rw [mk_list, extract_data]
theorem size_list (s : ByteArray) : s.data.toList.length = s.size := Array.length_toList

theorem no_blank {l : List UInt8} {a b : Nat} (h : ∀ j, a ≤ j → j < b → l[j]? ≠ some 32) : (32 : UInt8) ∉ (l.drop a).take (b - a) := fun hm => by
  obtain ⟨k, hk, e⟩ := List.getElem_of_mem hm
  rw [List.length_take, List.length_drop] at hk
  rw [List.getElem_take, List.getElem_drop] at e
  exact h (a + k) (by omega) (by omega) (by rw [List.getElem?_eq_getElem (by omega), e])

theorem spans_end (s : ByteArray) (st : Option Nat) (acc : List (Nat × Nat)) (h : ∀ a, st = some a → a < s.size ∧ ∀ j, a ≤ j → j < s.size → s.data.toList[j]? ≠ some 32) :
    ((closeSpans s (acc, st)).map fun x => s.extract x.1 x.2) = (acc.map fun x => s.extract x.1 x.2) ++ (wordsL (s.data.toList.drop (st.getD s.size))).map mk := by
  cases st with
  | none =>
    show _ = _ ++ (wordsL (s.data.toList.drop s.size)).map mk
    rw [List.drop_of_length_le (by rw [size_list]; exact Nat.le_refl _)]
    show _ = _ ++ []
    rw [List.append_nil]
    rfl
  | some a =>
    obtain ⟨h1, h2⟩ := h a rfl
    have nb := no_blank (b := s.size) h2
    have e : (s.data.toList.drop a).take (s.size - a) = s.data.toList.drop a := List.take_of_length_le (by rw [List.length_drop, size_list]; exact Nat.le_refl _)
    rw [e] at nb
    show ((acc ++ [(a, s.size)]).map fun x => s.extract x.1 x.2) = _ ++ (wordsL (s.data.toList.drop a)).map mk
    rw [List.map_append, wordsL_end _ nb (fun h0 => by have := congrArg List.length h0; rw [List.length_drop, size_list] at this; simp at this; omega)]
    rw [List.map_cons, List.map_nil, ext_list, e]
    rfl

theorem spans_words (s : ByteArray) : ∀ (f pos : Nat) (st : Option Nat) (acc : List (Nat × Nat)), s.size ≤ pos + f → pos ≤ s.size → (∀ a, st = some a → a < pos ∧ ∀ j, a ≤ j → j < pos → s.data.toList[j]? ≠ some 32) →
    ((closeSpans s (spansFromP isBlank s f pos st acc)).map fun x => s.extract x.1 x.2) = (acc.map fun x => s.extract x.1 x.2) ++ (wordsL (s.data.toList.drop (st.getD pos))).map mk
  | 0, pos, st, acc, h1, h2, h3 => by
    obtain rfl : pos = s.size := by omega
    exact spans_end s st acc h3
  | f + 1, pos, st, acc, h1, h2, h3 => by
    by_cases hp : pos < s.size
    · obtain ⟨b1, b2, b3, b4⟩ := blank_at s pos hp
      unfold spansFromP
      rw [if_pos hp]
      cases hb : isBlank (Utf8.decode s pos).1 with
      | true =>
        obtain ⟨c1, c2⟩ := b1 hb
        rw [if_pos rfl, c2]
        have hd : s.data.toList.drop pos = 32 :: s.data.toList.drop (pos + 1) := by
          have hl : pos < s.data.toList.length := by rw [size_list]; exact hp
          rw [List.drop_eq_getElem_cons hl]
          congr 1
          rw [List.getElem?_eq_getElem hl] at c1
          exact Option.some.inj c1
        cases st with
        | none =>
          show ((closeSpans s (spansFromP isBlank s f (pos + 1) none acc)).map fun x => s.extract x.1 x.2) = _
          rw [spans_words s f (pos + 1) none acc (by omega) (by omega) (fun a h => by cases h)]
          show _ ++ (wordsL (s.data.toList.drop (pos + 1))).map mk = _ ++ (wordsL (s.data.toList.drop pos)).map mk
          rw [hd, wordsL_blank]
        | some a =>
          obtain ⟨d1, d2⟩ := h3 a rfl
          show ((closeSpans s (spansFromP isBlank s f (pos + 1) none (acc ++ [(a, pos)]))).map fun x => s.extract x.1 x.2) = _
          rw [spans_words s f (pos + 1) none (acc ++ [(a, pos)]) (by omega) (by omega) (fun a h => by cases h)]
          show _ ++ (wordsL (s.data.toList.drop (pos + 1))).map mk = _ ++ (wordsL (s.data.toList.drop a)).map mk
          have e : s.data.toList.drop a = (s.data.toList.drop a).take (pos - a) ++ 32 :: s.data.toList.drop (pos + 1) := by
            rw [← hd]
            conv => lhs; rw [← List.take_append_drop (pos - a) (s.data.toList.drop a), List.drop_drop]
            rw [show a + (pos - a) = pos by omega]
          have e2 : wordsL (s.data.toList.drop a) = (s.data.toList.drop a).take (pos - a) :: wordsL (s.data.toList.drop (pos + 1)) := by
            conv => lhs; rw [e]
            refine wordsL_at _ _ (no_blank d2) (fun h0 => ?_)
            have := congrArg List.length h0
            rw [List.length_take, List.length_drop, size_list] at this
            simp at this
            omega
          rw [e2, List.map_append, List.map_cons, List.map_nil, List.map_cons, List.append_assoc, ext_list]
          rfl
      | false =>
        have c1 := b2 hb
        rw [if_neg (by decide)]
        cases st with
        | none =>
          show ((closeSpans s (spansFromP isBlank s f (pos + (Utf8.decode s pos).2) (some pos) acc)).map fun x => s.extract x.1 x.2) = _
          rw [spans_words s f _ (some pos) acc (by omega) b4 (fun a h => by cases h; exact ⟨by omega, c1⟩)]
          rfl
        | some a =>
          obtain ⟨d1, d2⟩ := h3 a rfl
          show ((closeSpans s (spansFromP isBlank s f (pos + (Utf8.decode s pos).2) (some a) acc)).map fun x => s.extract x.1 x.2) = _
          rw [spans_words s f _ (some a) acc (by omega) b4 (fun a' h => by
            cases h
            refine ⟨by omega, fun j hj hk => ?_⟩
            by_cases hjp : j < pos
            · exact d2 j hj hjp
            · exact c1 j (by omega) hk)]
          rfl
    · obtain rfl : pos = s.size := by omega
      rw [spansFromP_end _ _ _ _ _ _ hp]
      exact spans_end s st acc h3

/-- strings.FieldsFunc at blanks: the pieces that are not empty. -/
theorem fields_words (s : ByteArray) : goFieldsP isBlank s = wordsB s := by
  unfold goFieldsP spansOfP
  rw [spans_words s s.size 0 none [] (by omega) (Nat.zero_le _) (fun a h => by cases h)]
  rfl

end Go.Proofs.YtooaojegdhamjaaDoor
