/-
  What 'WordsBack' of the statements answers: true, for every list of texts and every list of bytes. No condition but that they lie in memory.
-/
import Derived.Test.YtooaojegdhamjaaDoorAwake
import Derived.Test.YtooaojegdhamjaaDoorMathB
import Derived.Laws.AppendOwnNone
namespace Go.Proofs.YtooaojegdhamjaaDoor
open Go.RowKit Go.Lib

/-- A list of bytes that lies in memory. -/
def RowB (w : World) (a : Option Addr) (n : Nat) (f : Nat → Nat) : Prop :=
  0 < n → ∃ b off, a = some ⟨b, off, none⟩ ∧ b < w.heap.size ∧ ∀ k, k < n → w.cell? ⟨b, off + k, none⟩ = some (.int .u8 (f k : Nat))
theorem RowB.carry {w w' : World} {a : Option Addr} {n : Nat} {f : Nat → Nat} (h : RowB w a n f) (g : Below w.heap.size w w') : RowB w' a n f := by
  intro hn
  obtain ⟨b, off, e, hb, hc⟩ := h hn
  exact ⟨b, off, e, Nat.lt_of_lt_of_le hb g.size, fun k hk => (g.cell (p := ⟨b, off + k, none⟩) hb).trans (hc k hk)⟩

theorem one_newT (w : World) (x : ByteArray) : ∀ j u, ([.string x] : List Value)[j]? = some u → (w.alloc (.cells #[.string x] 9)).cell? ((⟨w.heap.size, 0, none⟩ : Addr).add j) = some u := by
  intro j u hj
  match j, hj with
  | 0, hj => simp at hj; subst hj; simp [Addr.add]
theorem one_cellT (x : ByteArray) : ∀ u ∈ ([.string x] : List Value), u.oneCell' = true := by
  intro u hu; simp at hu; subst hu; rfl

/-- A list of texts of the call's own. -/
def OwnT (B : Nat) (w : World) (v : Value) (L : List ByteArray) : Prop := w.ownsRow B 9 1 v L.length (L.map Value.string)
theorem OwnT.shape {B : Nat} {w : World} {v : Value} {L : List ByteArray} (h : OwnT B w v L) : ∃ a c, v = .slice a L.length c ∧ RowL w a L := by
  rcases h.2 with ⟨rfl, h0⟩ | ⟨g, cap, cur, rfl, hb, hg, rest⟩
  · have : L = [] := by cases L with | nil => rfl | cons _ _ => simp at h0
    subst this
    exact ⟨none, 0, rfl, fun h => absurd h (Nat.lt_irrefl 0)⟩
  · refine ⟨some ⟨g, 0, none⟩, cap, rfl, fun hn => ⟨g, 0, rfl, (h.lt g rfl).2, fun k hk => ?_⟩⟩
    rw [Nat.zero_add, h.cellAt k (by omega), List.getElem?_map, List.getElem?_eq_getElem hk, gt_eq hk]
    rfl

theorem word_clean {s : ByteArray} (h : isWord s = true) : s.size ≤ 64 ∧ s.data.toList ≠ [] ∧ (32 : UInt8) ∉ s.data.toList ∧ (10 : UInt8) ∉ s.data.toList := by
  rw [isWord_eq] at h
  simp only [Bool.and_eq_true, decide_eq_true_eq, Bool.not_eq_true', decide_eq_false_iff_not] at h
  obtain ⟨h1, h2, h3, h4⟩ := h
  have hall : ∀ b ∈ s.data.toList, isWordB (b.toNat : Int) = true := by
    unfold allB at h2
    exact fun b hb => List.all_eq_true.1 h2 b hb
  refine ⟨h1, fun e => h3 ?_, fun hm => ?_, fun hm => ?_⟩
  · rw [← size_list, e]; rfl
  · have := hall 32 hm; revert this; decide
  · have := hall 10 hm; revert this; decide

/-- How the words stand in the line and in the lines. -/
structure Back (line lines : ByteArray) (W : List ByteArray) : Prop where
  words : wordsL line.data.toList = W.map (·.data.toList)
  lns : Lns lines.data.toList (W.map (·.data.toList))

theorem cat_list (a b : ByteArray) : (a ++ b).data.toList = a.data.toList ++ b.data.toList := by simp
theorem cat_size (a b : ByteArray) : (a ++ b).size = a.size + b.size := by simp

theorem Back.put {ln l2 lns x : ByteArray} {W : List ByteArray} (h : Back ln lns W) (h2 : wordsL l2.data.toList = wordsL ln.data.toList) (h3 : ∃ y, l2.data.toList = y ++ [32]) (hx : isWord x = true) :
    Back (l2 ++ x) (lns ++ (x ++ ⟨#[10]⟩)) (W ++ [x]) := by
  obtain ⟨c1, c2, c3, c4⟩ := word_clean hx
  obtain ⟨y, hy⟩ := h3
  refine ⟨?_, ?_⟩
  · rw [cat_list, hy, wordsL_put y _ c3 c2, ← hy, h2, h.words, List.map_append]
    rfl
  · rw [cat_list, cat_list, List.map_append]
    exact h.lns.put _ c4

theorem back_words {W : List ByteArray} {ln lns : ByteArray} (h : Back ln lns W) : wordsB ln = W := by
  unfold wordsB
  rw [h.words, List.map_map]
  have : (mk ∘ fun x : ByteArray => x.data.toList) = id := by funext x; exact mk_of x
  rw [this, List.map_id]
theorem back_lines {W : List ByteArray} {ln lns : ByteArray} (h : Back ln lns W) : linesB lns = W := by
  have e : cutB 10 lns = W ++ [mk []] := by
    unfold cutB
    rw [h.lns.1, List.map_append, List.map_map]
    have : (mk ∘ fun x : ByteArray => x.data.toList) = id := by funext x; exact mk_of x
    rw [this, List.map_id]
    rfl
  unfold linesB
  rw [e, if_pos (by
    rw [List.length_append]
    show gt (W ++ [mk []]) (W.length + 1 - 1) = _
    rw [Nat.add_sub_cancel, gt_eq (by simp)]
    simp [mk]), List.dropLast_concat]

theorem OwnT.put {B : Nat} {w : World} {v : Value} {W : List ByteArray} {x : ByteArray} (h : w.ownsRow B 9 1 v (W.length + 1) (W.map Value.string ++ [.string x])) : OwnT B w v (W ++ [x]) := by
  unfold OwnT
  rw [List.length_append, List.map_append]
  exact h

end Go.Proofs.YtooaojegdhamjaaDoor
