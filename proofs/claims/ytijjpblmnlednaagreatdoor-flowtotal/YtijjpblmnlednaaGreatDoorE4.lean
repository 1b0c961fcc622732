/-
  That strings.Split's and strings.FieldsFunc's pieces are these.
  The bodies of strings.Join's and strconv.Itoa's functions, as they lie in this program, are those over which the library's theorems on them are stated.
  The texts' type in this program; pieces of a text.
  Lists of texts in memory of their own; texts put together.
-/
import Derived.Lib.FieldsP
import Derived.Lib.SplitLaws
import Derived.Lib.Split
import Derived.Test.YtijjpblmnlednaaGreatDoorE2
import Derived.Test.YtijjpblmnlednaaGreatDoorRows
import Derived.Shelf.Strings.OnBuilder
import Derived.Ground.NamesProg
import Derived.Test.YtijjpblmnlednaaGreatDoorE3
import Derived.Laws.AppendOwnNone
import Derived.Deep.AppendLies
import Derived.Deep.SlicePairs
import Derived.Lib.Join
namespace Go.Proofs.YtijjpblmnlednaaGreatDoor
open Go.Lib
theorem ext_list (s : ByteArray) (a b : Nat) : s.extract a b = mk ((s.data.toList.drop a).take (b - a)) := by
  apply list_inj
  rw [mk_list, extract_data]
theorem index_one_eq (c : UInt8) : ∀ l : List UInt8, index l [c] = indexByte l c
  | [] => rfl
  | b :: l => by
    rw [index, indexByte, index_one_eq c l]
    by_cases h : b = c
    · subst h; simp [List.isPrefixOf]
    · have h1 : ([c].isPrefixOf (b :: l)) = false := by simp [List.isPrefixOf, Ne.symm h]
      have h2 : (b == c) = false := by simpa using h
      rw [h1, h2]

theorem hit_parts {l : List UInt8} {c : UInt8} {i : Nat} (h : indexByte l c = (i : Int)) : l = l.take i ++ c :: l.drop (i + 1) ∧ c ∉ l.take i := by
  obtain ⟨h1, h2⟩ := indexByte_some h
  have hi : i < l.length := (List.getElem?_eq_some_iff.1 h1).1
  have hc : l[i] = c := (List.getElem?_eq_some_iff.1 h1).2
  refine ⟨?_, fun hm => ?_⟩
  · rw [← hc, ← List.drop_eq_getElem_cons hi, List.take_append_drop]
  · obtain ⟨k, hk, e⟩ := List.getElem_of_mem hm
    rw [List.length_take] at hk
    refine h2 k (by omega) ?_
    rw [List.getElem_take] at e
    rw [List.getElem?_eq_getElem (by omega), e]
theorem miss_parts {l : List UInt8} {c : UInt8} (h : indexByte l c = -1) : c ∉ l := fun hm => by
  obtain ⟨k, hk, e⟩ := List.getElem_of_mem hm
  exact indexByte_none h k (by rw [List.getElem?_eq_getElem hk, e])

theorem splitK_all (c : UInt8) : ∀ (k : Nat) (l : List UInt8), l.count c ≤ k → splitK [c] 0 k l = cutL c l
  | 0, l, h => by
    rw [cutL_plain c l (List.count_eq_zero.1 (by omega))]
    rfl
  | k + 1, l, h => by
    unfold splitK
    rw [index_one_eq]
    by_cases hm : indexByte l c = -1
    · rw [if_pos (by rw [hm]; rfl), cutL_plain c l (miss_parts hm)]
    · rw [if_neg (fun e => hm (eq_of_beq e))]
      have hge := indexByte_ge l c
      obtain ⟨i, hi⟩ : ∃ i : Nat, indexByte l c = (i : Int) := ⟨(indexByte l c).toNat, by omega⟩
      obtain ⟨e1, e2⟩ := hit_parts hi
      rw [hi, Int.toNat_natCast, Nat.add_zero]
      show l.take i :: splitK [c] 0 k (l.drop (i + 1)) = _
      have hcnt : (l.drop (i + 1)).count c ≤ k := by
        have : l.count c = (l.take i ++ c :: l.drop (i + 1)).count c := congrArg (List.count c) e1
        rw [List.count_append, List.count_cons_self] at this
        omega
      rw [splitK_all c k _ hcnt]
      conv => rhs; rw [e1]
      rw [cutL_at c _ _ e2]
theorem splitK_many (c : UInt8) : ∀ (k : Nat) (l : List UInt8), k ≤ l.count c → (splitK [c] 0 k l).length = k + 1
  | 0, l, _ => rfl
  | k + 1, l, h => by
    unfold splitK
    rw [index_one_eq]
    by_cases hm : indexByte l c = -1
    · have := List.count_eq_zero.2 (miss_parts hm); omega
    · rw [if_neg (fun e => hm (eq_of_beq e))]
      have hge := indexByte_ge l c
      obtain ⟨i, hi⟩ : ∃ i : Nat, indexByte l c = (i : Int) := ⟨(indexByte l c).toNat, by omega⟩
      obtain ⟨e1, e2⟩ := hit_parts hi
      rw [hi, Int.toNat_natCast, Nat.add_zero, List.length_cons]
      have hcnt : k ≤ (l.drop (i + 1)).count c := by
        have : l.count c = (l.take i ++ c :: l.drop (i + 1)).count c := congrArg (List.count c) e1
        rw [List.count_append, List.count_cons_self, List.count_eq_zero.2 e2] at this
        omega
      exact congrArg (· + 1) (splitK_many c k _ hcnt)

theorem splitB_mk (c : UInt8) (k : Nat) (s : ByteArray) : splitB ⟨#[c]⟩ 0 k s = (splitK [c] 0 k s.data.toList).map mk := by
  have h := splitB_data ⟨#[c]⟩ 0 k s
  have : (splitB ⟨#[c]⟩ 0 k s) = ((splitB ⟨#[c]⟩ 0 k s).map (·.data.toList)).map mk := by
    rw [List.map_map]
    have : (mk ∘ fun x : ByteArray => x.data.toList) = id := by funext x; exact mk_of x
    rw [this, List.map_id]
  rw [this, h]
theorem splitB_all' (c : UInt8) (k : Nat) (s : ByteArray) (h : s.data.toList.count c ≤ k) : splitB ⟨#[c]⟩ 0 k s = cutB c s := by
  rw [splitB_mk, splitK_all c k _ h]
  rfl
theorem splitB_many (c : UInt8) (k : Nat) (s : ByteArray) (h : k ≤ s.data.toList.count c) : (splitB ⟨#[c]⟩ 0 k s).length = k + 1 := by
  rw [splitB_mk, List.length_map, splitK_many c k _ h]

/-! ### the pieces that are not empty -/
theorem blank_N (n b0 b1 b2 b3 : Nat) (hn : 1 ≤ n) :
    ((decodeN n b0 b1 b2 b3).1 = 32 ↔ b0 = 32) ∧ (b0 = 32 → (decodeN n b0 b1 b2 b3).2 = 1) ∧ 1 ≤ (decodeN n b0 b1 b2 b3).2 ∧ (decodeN n b0 b1 b2 b3).2 ≤ 4 ∧ (decodeN n b0 b1 b2 b3).2 ≤ n ∧
    (2 ≤ (decodeN n b0 b1 b2 b3).2 → b1 / 64 = 2) ∧ (3 ≤ (decodeN n b0 b1 b2 b3).2 → b2 / 64 = 2) ∧ (4 ≤ (decodeN n b0 b1 b2 b3).2 → b3 / 64 = 2) := by
  unfold decodeN
  repeat' split
  all_goals (refine ⟨⟨fun h => ?_, fun h => ?_⟩, fun h => ?_, ?_, ?_, ?_, fun h => ?_, fun h => ?_, fun h => ?_⟩ <;> (try dsimp only at *) <;> omega)

theorem get_bang (s : ByteArray) (i : Nat) (h : i < s.size) : s.data.toList[i]? = some (s.get! i) := by
  have hl : i < s.data.toList.length := by rw [Array.length_toList]; exact h
  rw [List.getElem?_eq_getElem hl]
  congr 1
  show s.data[i] = s.data[i]!
  rw [getElem!_pos s.data i h]

theorem blank_at (s : ByteArray) (pos : Nat) (h : pos < s.size) :
    ((((Utf8.decode s pos).1 == 32) = true) → s.data.toList[pos]? = some 32 ∧ (Utf8.decode s pos).2 = 1) ∧
    ((((Utf8.decode s pos).1 == 32) = false) → ∀ j, pos ≤ j → j < pos + (Utf8.decode s pos).2 → s.data.toList[j]? ≠ some 32) ∧
    1 ≤ (Utf8.decode s pos).2 ∧ pos + (Utf8.decode s pos).2 ≤ s.size := by
  rw [decode_at]
  obtain ⟨h1, h2, h3, h4, h5, h6, h7, h8⟩ := blank_N (s.size - pos) (s.get! pos).toNat (s.get! (pos + 1)).toNat (s.get! (pos + 2)).toNat (s.get! (pos + 3)).toNat (by omega)
  generalize decodeN (s.size - pos) (s.get! pos).toNat (s.get! (pos + 1)).toNat (s.get! (pos + 2)).toNat (s.get! (pos + 3)).toNat = D at *
  refine ⟨fun e => ?_, fun e j hj hk => ?_, h3, by omega⟩
  · have e1 := h1.1 (eq_of_beq e)
    refine ⟨?_, h2 e1⟩
    rw [get_bang s pos h]
    congr 1
    exact UInt8.toNat_inj.1 e1
  · have e1 : ¬ D.1 = 32 := fun h => by rw [h] at e; exact absurd e (by decide)
    rw [get_bang s j (by omega)]
    intro hc
    have hc' : (s.get! j).toNat = 32 := by rw [Option.some.inj hc]; rfl
    rcases (by omega : j = pos ∨ j = pos + 1 ∨ j = pos + 2 ∨ j = pos + 3) with rfl | rfl | rfl | rfl
    · exact e1 (h1.2 hc')
    · have := h6 (by omega); omega
    · have := h7 (by omega); omega
    · have := h8 (by omega); omega

theorem spans_end (s : ByteArray) (st : Option Nat) (acc : List (Nat × Nat)) (h : ∀ a, st = some a → a < s.size ∧ ∀ j, a ≤ j → j < s.size → s.data.toList[j]? ≠ some 32) :
    ((closeSpans s (acc, st)).map fun x => s.extract x.1 x.2) = (acc.map fun x => s.extract x.1 x.2) ++ (wordsL (s.data.toList.drop (st.getD s.size))).map mk := by
  cases st with
  | none =>
    show _ = _ ++ (wordsL (s.data.toList.drop s.size)).map mk
    rw [List.drop_of_length_le (by rw [size_list]; exact Nat.le_refl _)]
    show _ = _ ++ []
    rw [List.append_nil]
    rfl
  | some a =>
    obtain ⟨h1, h2⟩ := h a rfl
    have nb := no_blank (b := s.size) h2
    have e : (s.data.toList.drop a).take (s.size - a) = s.data.toList.drop a := List.take_of_length_le (by rw [List.length_drop, size_list]; exact Nat.le_refl _)
    rw [e] at nb
    show ((acc ++ [(a, s.size)]).map fun x => s.extract x.1 x.2) = _ ++ (wordsL (s.data.toList.drop a)).map mk
    rw [List.map_append, wordsL_end _ nb (fun h0 => by have := congrArg List.length h0; rw [List.length_drop, size_list] at this; simp at this; omega)]
    rw [List.map_cons, List.map_nil, ext_list, e]
    rfl

theorem spans_words (s : ByteArray) : ∀ (f pos : Nat) (st : Option Nat) (acc : List (Nat × Nat)), s.size ≤ pos + f → pos ≤ s.size → (∀ a, st = some a → a < pos ∧ ∀ j, a ≤ j → j < pos → s.data.toList[j]? ≠ some 32) →
    ((closeSpans s (spansFromP isBlank s f pos st acc)).map fun x => s.extract x.1 x.2) = (acc.map fun x => s.extract x.1 x.2) ++ (wordsL (s.data.toList.drop (st.getD pos))).map mk
  | 0, pos, st, acc, h1, h2, h3 => by
    obtain rfl : pos = s.size := by omega
    exact spans_end s st acc h3
  | f + 1, pos, st, acc, h1, h2, h3 => by
    by_cases hp : pos < s.size
    · obtain ⟨b1, b2, b3, b4⟩ := blank_at s pos hp
      unfold spansFromP
      rw [if_pos hp]
      cases hb : isBlank (Utf8.decode s pos).1 with
      | true =>
        obtain ⟨c1, c2⟩ := b1 hb
        rw [if_pos rfl, c2]
        have hd : s.data.toList.drop pos = 32 :: s.data.toList.drop (pos + 1) := by
          have hl : pos < s.data.toList.length := by rw [size_list]; exact hp
          rw [List.drop_eq_getElem_cons hl]
          congr 1
          rw [List.getElem?_eq_getElem hl] at c1
          exact Option.some.inj c1
        cases st with
        | none =>
          show ((closeSpans s (spansFromP isBlank s f (pos + 1) none acc)).map fun x => s.extract x.1 x.2) = _
          rw [spans_words s f (pos + 1) none acc (by omega) (by omega) (fun a h => by cases h)]
          show _ ++ (wordsL (s.data.toList.drop (pos + 1))).map mk = _ ++ (wordsL (s.data.toList.drop pos)).map mk
          rw [hd, wordsL_blank]
        | some a =>
          obtain ⟨d1, d2⟩ := h3 a rfl
          show ((closeSpans s (spansFromP isBlank s f (pos + 1) none (acc ++ [(a, pos)]))).map fun x => s.extract x.1 x.2) = _
          rw [spans_words s f (pos + 1) none (acc ++ [(a, pos)]) (by omega) (by omega) (fun a h => by cases h)]
          show _ ++ (wordsL (s.data.toList.drop (pos + 1))).map mk = _ ++ (wordsL (s.data.toList.drop a)).map mk
          have e : s.data.toList.drop a = (s.data.toList.drop a).take (pos - a) ++ 32 :: s.data.toList.drop (pos + 1) := by
            rw [← hd]
            conv => lhs; rw [← List.take_append_drop (pos - a) (s.data.toList.drop a), List.drop_drop]
            rw [show a + (pos - a) = pos by omega]
          have e2 : wordsL (s.data.toList.drop a) = (s.data.toList.drop a).take (pos - a) :: wordsL (s.data.toList.drop (pos + 1)) := by
            conv => lhs; rw [e]
            refine wordsL_at _ _ (no_blank d2) (fun h0 => ?_)
            have := congrArg List.length h0
            rw [List.length_take, List.length_drop, size_list] at this
            simp at this
            omega
          rw [e2, List.map_append, List.map_cons, List.map_nil, List.map_cons, List.append_assoc, ext_list]
          rfl
      | false =>
        have c1 := b2 hb
        rw [if_neg (by decide)]
        cases st with
        | none =>
          show ((closeSpans s (spansFromP isBlank s f (pos + (Utf8.decode s pos).2) (some pos) acc)).map fun x => s.extract x.1 x.2) = _
          rw [spans_words s f _ (some pos) acc (by omega) b4 (fun a h => by cases h; exact ⟨by omega, c1⟩)]
          rfl
        | some a =>
          obtain ⟨d1, d2⟩ := h3 a rfl
          show ((closeSpans s (spansFromP isBlank s f (pos + (Utf8.decode s pos).2) (some a) acc)).map fun x => s.extract x.1 x.2) = _
          rw [spans_words s f _ (some a) acc (by omega) b4 (fun a' h => by
            cases h
            refine ⟨by omega, fun j hj hk => ?_⟩
            by_cases hjp : j < pos
            · exact d2 j hj hjp
            · exact c1 j (by omega) hk)]
          rfl
    · obtain rfl : pos = s.size := by omega
      rw [spansFromP_end _ _ _ _ _ _ hp]
      exact spans_end s st acc h3

theorem fields_words (s : ByteArray) : goFieldsP isBlank s = wordsB s := by
  unfold goFieldsP spansOfP
  rw [spans_words s s.size 0 none [] (by omega) (Nat.zero_le _) (fun a h => by cases h)]
  rfl
end Go.Proofs.YtijjpblmnlednaaGreatDoor

namespace Go.Proofs.YtijjpblmnlednaaGreatDoor
open Go.Shelf
def Tryz.laysJoin_ren : Go.Shelf.Ren := ⟨fun | 156 => 45 | 165 => 93 | 166 => 94 | 169 => 95 | 240 => 124 | 241 => 125 | 276 => 139 | 277 => 140 | n => n, fun | 31 => 26 | 9 => 9 | 3 => 3 | 4 => 4 | 0 => 0 | 20 => 20 | 72 => 131 | 76 => 133 | 70 => 128 | 37 => 129 | 75 => 36 | 127 => 152 | 164 => 160 | 5 => 5 | 80 => 135 | n => n, fun | n => n⟩
theorem Tryz.laysJoin : Go.Proofs.Lays.n156 Tryz.prog Tryz.laysJoin_ren := {
  mixed := by kernel_rfl
  f156 := Tryz.func45.trans (congrArg some (by kernel_rfl))
  f165 := Tryz.func93.trans (congrArg some (by kernel_rfl))
  f166 := Tryz.func94.trans (congrArg some (by kernel_rfl))
  f169 := Tryz.func95.trans (congrArg some (by kernel_rfl))
  f240 := Tryz.func124.trans (congrArg some (by kernel_rfl))
  f241 := Tryz.func125.trans (congrArg some (by kernel_rfl))
  f276 := Tryz.func139.trans (congrArg some (by kernel_rfl))
  f277 := Tryz.func140.trans (congrArg some (by kernel_rfl))
  t0 := Tryz.underlying0
  a0 := Tryz.isAgg0
  z0 := Tryz.sizeOf0
  v0 := Tryz.zeroValue0
  t3 := Tryz.underlying3
  a3 := Tryz.isAgg3
  z3 := Tryz.sizeOf3
  v3 := Tryz.zeroValue3
  t4 := Tryz.underlying4
  a4 := Tryz.isAgg4
  z4 := Tryz.sizeOf4
  v4 := Tryz.zeroValue4
  t9 := Tryz.underlying9
  a9 := Tryz.isAgg9
  z9 := Tryz.sizeOf9
  v9 := Tryz.zeroValue9
  t20 := Tryz.underlying20
  a20 := Tryz.isAgg20
  z20 := Tryz.sizeOf20
  v20 := Tryz.zeroValue20
  t31 := Tryz.underlying26
  a31 := Tryz.isAgg26
  z31 := Tryz.sizeOf26
  v31 := Tryz.zeroValue26
  t37 := Tryz.underlying129
  a37 := Tryz.isAgg129
  z37 := Tryz.sizeOf129
  v37 := Tryz.zeroValue129
  t70 := Tryz.underlying128
  a70 := Tryz.isAgg128
  z70 := Tryz.sizeOf128
  v70 := Tryz.zeroValue128
  t72 := Tryz.underlying131
  a72 := Tryz.isAgg131
  z72 := Tryz.sizeOf131
  v72 := Tryz.zeroValue131
  t75 := Tryz.underlying36
  a75 := Tryz.isAgg36
  z75 := Tryz.sizeOf36
  v75 := Tryz.zeroValue36
  t76 := Tryz.underlying133
  a76 := Tryz.isAgg133
  z76 := Tryz.sizeOf133
  v76 := Tryz.zeroValue133
  t127 := Tryz.underlying152
  a127 := Tryz.isAgg152
  z127 := Tryz.sizeOf152
  v127 := Tryz.zeroValue152
  t164 := Tryz.underlying160
  a164 := Tryz.isAgg160
  z164 := Tryz.sizeOf160
  v164 := Tryz.zeroValue160 }
end Go.Proofs.YtijjpblmnlednaaGreatDoor

namespace Go.Proofs.YtijjpblmnlednaaGreatDoor
open Go.RowKit Go.Lib Go.Shelf
theorem info9 : (Tryz.prog.info? 9).map (fun i => (i.zero, i.size, i.bytes)) = some (some (.string ByteArray.empty), 1, 16) := by kernel_rfl
theorem piece_le (c : UInt8) : ∀ (l : List UInt8), ∀ x ∈ cutL c l, x.length ≤ l.length
  | [], x, h => by
    have : x = [] := by simpa [cutL] using h
    subst this; simp
  | b :: l, x, h => by
    have ih := piece_le c l
    unfold cutL at h
    split at h
    · rcases List.mem_cons.1 h with rfl | h
      · simp
      · have := ih x h; simp; omega
    · rcases List.mem_cons.1 h with rfl | h
      · have hne := cutL_ne c l
        cases hc : cutL c l with
        | nil => exact absurd hc hne
        | cons y t =>
          have := ih y (by rw [hc]; exact List.mem_cons_self ..)
          simp; omega
      · have := ih x (List.mem_of_mem_tail h); simp; omega
theorem add_at (g j : Nat) : (⟨g, 0, none⟩ : Addr).add j = ⟨g, j, none⟩ := by unfold Addr.add; split <;> simp_all

theorem one_newT (w : World) (x : ByteArray) : ∀ j u, ([.string x] : List Value)[j]? = some u → (w.alloc (.cells #[.string x] 9)).cell? ((⟨w.heap.size, 0, none⟩ : Addr).add j) = some u := by
  intro j u hj
  match j, hj with
  | 0, hj => simp at hj; subst hj; simp [Addr.add]
theorem one_cellT (x : ByteArray) : ∀ u ∈ ([.string x] : List Value), u.oneCell' = true := by
  intro u hu; simp at hu; subst hu; rfl

def OwnT (B : Nat) (w : World) (v : Value) (L : List ByteArray) : Prop := w.ownsRow B 9 1 v L.length (L.map Value.string)
theorem OwnT.shape {B : Nat} {w : World} {v : Value} {L : List ByteArray} (h : OwnT B w v L) : ∃ a c, v = .slice a L.length c ∧ RowL w a L := by
  rcases h.2 with ⟨rfl, h0⟩ | ⟨g, cap, cur, rfl, hb, hg, rest⟩
  · have : L = [] := by cases L with | nil => rfl | cons _ _ => simp at h0
    subst this
    exact ⟨none, 0, rfl, fun h => absurd h (Nat.lt_irrefl 0)⟩
  · refine ⟨some ⟨g, 0, none⟩, cap, rfl, fun hn => ⟨g, 0, rfl, (h.lt g rfl).2, fun k hk => ?_⟩⟩
    rw [Nat.zero_add, h.cellAt k (by omega), List.getElem?_map, List.getElem?_eq_getElem hk, gt_eq hk]
    rfl

theorem cat_list (a b : ByteArray) : (a ++ b).data.toList = a.data.toList ++ b.data.toList := by simp
theorem cat_size (a b : ByteArray) : (a ++ b).size = a.size + b.size := by simp

theorem OwnT.put {B : Nat} {w : World} {v : Value} {W : List ByteArray} {x : ByteArray} (h : w.ownsRow B 9 1 v (W.length + 1) (W.map Value.string ++ [.string x])) : OwnT B w v (W ++ [x]) := by
  unfold OwnT
  rw [List.length_append, List.map_append]
  exact h

theorem mk_size (l : List UInt8) : (mk l).size = l.length := by rw [← size_list, mk_list]
theorem short_cut (c : UInt8) (s : ByteArray) (hs : s.size ≤ 9223372036854775807) : Short (cutB c s) := fun k hk => by
  have := gt_mem hk
  obtain ⟨x, hx, e⟩ := List.mem_map.1 this
  rw [← e, mk_size]
  have := piece_le c _ x hx
  rw [size_list] at this
  omega
theorem isWord_eq (s : ByteArray) : isWord s = (decide (s.size ≤ 64) && (allB isWordB s && (!decide (s.size = 0) && !(s.data.toList == [45])))) := by
  unfold isWord
  rw [ByteArray.toList_eq]

theorem word_comma {s : ByteArray} (h : isWord s = true) : (44 : UInt8) ∉ s.data.toList := by
  rw [isWord_eq] at h
  simp only [Bool.and_eq_true] at h
  intro hm
  have h2 := h.2.1
  unfold allB at h2
  have := List.all_eq_true.1 h2 44 hm
  revert this
  decide
theorem word_short {s : ByteArray} (h : isWord s = true) : s.size ≤ 64 := by
  rw [isWord_eq] at h
  simp only [Bool.and_eq_true, decide_eq_true_eq] at h
  exact h.1
theorem good_words {L : List ByteArray} (h : Good L) : ∀ x ∈ L, isWord x = true := fun x hx => by
  obtain ⟨k, hk, rfl⟩ := List.getElem_of_mem hx
  have := (h.2 k hk).1
  rwa [gt_eq hk] at this
theorem star_no : isWord (mk [42]) = false := by rw [isWord_eq]; decide
theorem dash_no : isWord (mk [45]) = false := by rw [isWord_eq]; decide

theorem cutL_cons (c x : UInt8) (l : List UInt8) : cutL c (x :: l) = if x = c then [] :: cutL c l else (x :: (cutL c l).headD []) :: (cutL c l).tail := rfl
theorem tail_cons (c : UInt8) (y : List UInt8) (r : List (List UInt8)) : joinTail [c] (y :: r) = c :: (y ++ joinTail [c] r) := by simp [joinTail]
theorem join_cut (c : UInt8) : ∀ l : List UInt8, join (cutL c l) [c] = l
  | [] => rfl
  | b :: l => by
    have ih := join_cut c l
    have hne := cutL_ne c l
    rw [cutL_cons]
    cases hc : cutL c l with
    | nil => exact absurd hc hne
    | cons h t =>
      rw [hc, join_cons] at ih
      by_cases e : b = c
      · rw [if_pos e, join_cons, tail_cons, ih, e]
        rfl
      · rw [if_neg e, join_cons]
        show b :: (h ++ joinTail [c] t) = _
        rw [ih]
end Go.Proofs.YtijjpblmnlednaaGreatDoor
