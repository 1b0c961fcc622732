/-
  Lists of texts in memory of their own; texts put together.
-/
import Derived.Test.YtlkoaldekmdcoaaGreatDoorWalkD
import Derived.Laws.AppendOwnNone
import Derived.Deep.AppendLies
import Derived.Deep.SlicePairs
import Derived.Lib.Join
namespace Go.Proofs.YtlkoaldekmdcoaaGreatDoor
open Go.RowKit Go.Lib Go.Shelf

theorem add_at (g j : Nat) : (⟨g, 0, none⟩ : Addr).add j = ⟨g, j, none⟩ := by unfold Addr.add; split <;> simp_all

theorem one_newT (w : World) (x : ByteArray) : ∀ j u, ([.string x] : List Value)[j]? = some u → (w.alloc (.cells #[.string x] 9)).cell? ((⟨w.heap.size, 0, none⟩ : Addr).add j) = some u := by
  intro j u hj
  match j, hj with
  | 0, hj => simp at hj; subst hj; simp [Addr.add]
theorem one_cellT (x : ByteArray) : ∀ u ∈ ([.string x] : List Value), u.oneCell' = true := by
  intro u hu; simp at hu; subst hu; rfl

def OwnT (B : Nat) (w : World) (v : Value) (L : List ByteArray) : Prop := w.ownsRow B 9 1 v L.length (L.map Value.string)
theorem OwnT.shape {B : Nat} {w : World} {v : Value} {L : List ByteArray} (h : OwnT B w v L) : ∃ a c, v = .slice a L.length c ∧ RowL w a L := by
  rcases h.2 with ⟨rfl, h0⟩ | ⟨g, cap, cur, rfl, hb, hg, rest⟩
  · have : L = [] := by cases L with | nil => rfl | cons _ _ => simp at h0
    subst this
    exact ⟨none, 0, rfl, fun h => absurd h (Nat.lt_irrefl 0)⟩
  · refine ⟨some ⟨g, 0, none⟩, cap, rfl, fun hn => ⟨g, 0, rfl, (h.lt g rfl).2, fun k hk => ?_⟩⟩
    rw [Nat.zero_add, h.cellAt k (by omega), List.getElem?_map, List.getElem?_eq_getElem hk, gt_eq hk]
    rfl

theorem cat_list (a b : ByteArray) : (a ++ b).data.toList = a.data.toList ++ b.data.toList := by simp
theorem cat_size (a b : ByteArray) : (a ++ b).size = a.size + b.size := by simp

theorem OwnT.put {B : Nat} {w : World} {v : Value} {W : List ByteArray} {x : ByteArray} (h : w.ownsRow B 9 1 v (W.length + 1) (W.map Value.string ++ [.string x])) : OwnT B w v (W ++ [x]) := by
  unfold OwnT
  rw [List.length_append, List.map_append]
  exact h

theorem mk_size (l : List UInt8) : (mk l).size = l.length := by rw [← size_list, mk_list]
theorem short_cut (c : UInt8) (s : ByteArray) (hs : s.size ≤ 9223372036854775807) : Short (cutB c s) := fun k hk => by
  have := gt_mem hk
  obtain ⟨x, hx, e⟩ := List.mem_map.1 this
  rw [← e, mk_size]
  have := piece_le c _ x hx
  rw [size_list] at this
  omega
theorem isWord_eq (s : ByteArray) : isWord s = (decide (s.size ≤ 64) && (allB isWordB s && (!decide (s.size = 0) && !(s.data.toList == [45])))) := by
  unfold isWord
  rw [ByteArray.toList_eq]

theorem word_comma {s : ByteArray} (h : isWord s = true) : (44 : UInt8) ∉ s.data.toList := by
  rw [isWord_eq] at h
  simp only [Bool.and_eq_true] at h
  intro hm
  have h2 := h.2.1
  unfold allB at h2
  have := List.all_eq_true.1 h2 44 hm
  revert this
  decide
theorem word_short {s : ByteArray} (h : isWord s = true) : s.size ≤ 64 := by
  rw [isWord_eq] at h
  simp only [Bool.and_eq_true, decide_eq_true_eq] at h
  exact h.1
theorem good_words {L : List ByteArray} (h : Good L) : ∀ x ∈ L, isWord x = true := fun x hx => by
  obtain ⟨k, hk, rfl⟩ := List.getElem_of_mem hx
  have := (h.2 k hk).1
  rwa [gt_eq hk] at this
theorem star_no : isWord (mk [42]) = false := by rw [isWord_eq]; decide
theorem dash_no : isWord (mk [45]) = false := by rw [isWord_eq]; decide

theorem cutL_cons (c x : UInt8) (l : List UInt8) : cutL c (x :: l) = if x = c then [] :: cutL c l else (x :: (cutL c l).headD []) :: (cutL c l).tail := rfl
theorem tail_cons (c : UInt8) (y : List UInt8) (r : List (List UInt8)) : joinTail [c] (y :: r) = c :: (y ++ joinTail [c] r) := by simp [joinTail]
theorem join_cut (c : UInt8) : ∀ l : List UInt8, join (cutL c l) [c] = l
  | [] => rfl
  | b :: l => by
    have ih := join_cut c l
    have hne := cutL_ne c l
    rw [cutL_cons]
    cases hc : cutL c l with
    | nil => exact absurd hc hne
    | cons h t =>
      rw [hc, join_cons] at ih
      by_cases e : b = c
      · rw [if_pos e, join_cons, tail_cons, ih, e]
        rfl
      · rw [if_neg e, join_cons]
        show b :: (h ++ joinTail [c] t) = _
        rw [ih]


end Go.Proofs.YtlkoaldekmdcoaaGreatDoor
