/-
  What is filled, as functions.
  What 'slices.SortFunc' does to own rows of levels and of schemas: the same ones, in order.
-/
import Derived.Test.YtijjpblmnlednaaGreatDoorE3
import Derived.Test.YtijjpblmnlednaaGreatDoorE10
import Derived.Test.YtijjpblmnlednaaGreatDoorE14
namespace Go.Proofs.YtijjpblmnlednaaGreatDoor
def tCatch : ByteArray := ⟨#[99, 97, 116, 99, 104, 45, 97, 108, 108]⟩
def tMasters : ByteArray := ⟨#[115, 121, 115, 116, 101, 109, 58, 109, 97, 115, 116, 101, 114, 115]⟩
def tStar : ByteArray := ⟨#[42]⟩
def orU (x u : Int) : Int := if x = 0 then u else x
def lvX : Lv := ⟨tExempt, 1, 0, 0, 0, 0, 0, 0, 0, 0⟩
def lvY : Lv := ⟨tCatch, 2, 5, 0, -1, 0, 0, 0, 0, 0⟩
def rlX : Rl := ⟨[], [tMasters], [tStar], [tStar], [tStar]⟩
def rlY : Rl := ⟨[tStar], [], [tStar], [tStar], [tStar]⟩
def scX : Sc := ⟨tExempt, tExempt, 1, 0, [rlX]⟩
def scY : Sc := ⟨tCatch, tCatch, 10000, 1, [rlY]⟩
def anyL (L : List Lv) (x : ByteArray) : Bool := L.any fun l => decide (l.name = x)
def anyS (L : List Sc) (x : ByteArray) : Bool := L.any fun l => decide (l.name = x)
def putX {α : Type} (b : Bool) (L : List α) (x : α) : List α := if b then L else L ++ [x]
def fillL (L : List Lv) : List Lv := putX (anyL L tCatch) (putX (anyL L tExempt) L lvX) lvY
def fillS (L : List Sc) : List Sc := putX (anyS L tCatch) (putX (anyS L tExempt) L scX) scY
def fillC (C : Cf) : Cf := ⟨orU C.total 100, orU C.period 10, orU C.perSeat 100, orU C.most 10, fillL C.levels, fillS C.schemas⟩
end Go.Proofs.YtijjpblmnlednaaGreatDoor

namespace Go.Proofs.YtijjpblmnlednaaGreatDoor
open Go.RowKit Go.Lib Go.Sort
theorem kept_sortWorld (enc : Nat → List Value) (z : Nat) (w : World) (g m : Nat) (d : Array Nat) (os : Array Obj) : Kept (fun k => k = g) w (sortWorldK enc z w g 0 m d os) := by
  unfold sortWorldK putRowK putRow mapBlock
  refine ⟨rfl, rfl, rfl, ?_, fun k hk hn => ?_⟩
  · rw [size_grow]
    show w.heap.size ≤ (w.heap.modify g _).size + _
    rw [Array.size_modify]
    omega
  · rw [heap_grow_old _ _ (by show k < (w.heap.modify g _).size; rw [Array.size_modify]; exact hk)]
    show (w.heap.modify g _)[k]? = _
    rw [Array.getElem?_modify, if_neg (fun e => hn e.symm)]

theorem blk_sortWorld (enc : Nat → List Value) (z : Nat) (w : World) (g m t : Nat) (d : Array Nat) (os : Array Obj) (cur : Array Value) (h : Blk w g t cur) : ∃ cur', Blk (sortWorldK enc z w g 0 m d os) g t cur' ∧ cur'.size = cur.size := by
  refine ⟨putCells id 0 (flatK enc z d) cur, ?_, by simp [putCells]⟩
  unfold Blk sortWorldK putRowK putRow mapBlock
  have hl := h.lt
  rw [heap_grow_old _ _ (by show g < (w.heap.modify g _).size; rw [Array.size_modify]; exact hl)]
  show (w.heap.modify g _)[g]? = _
  rw [Array.getElem?_modify, if_pos rfl]
  rw [show w.heap[g]? = some (.cells cur t (0, 0)) from h]
  rfl

/-- A row's cells by its elements'. -/
def Flat (z n : Nat) (enc : Nat → List Value) (xs : List Value) : Prop := xs.length = n * z ∧ ∀ i, i < n → ∀ j, j < z → xs[i * z + j]? = (enc i)[j]?

theorem split_index {z n k : Nat} (hk : k < n * z) : ∃ i j, i < n ∧ j < z ∧ k = i * z + j := by
  have hz : 0 < z := by
    rcases Nat.eq_zero_or_pos z with h | h
    · subst h; omega
    · exact h
  refine ⟨k / z, k % z, (Nat.div_lt_iff_lt_mul hz).2 hk, Nat.mod_lt _ hz, ?_⟩
  rw [Nat.mul_comm]
  exact (Nat.div_add_mod k z).symm

theorem owns_holds {B e z n g cap : Nat} {w : World} {xs : List Value} {enc : Nat → List Value} (h : w.ownsRow B e z (.slice (some ⟨g, 0, none⟩) n cap) n xs) (hf : Flat z n enc xs) (hz : ∀ x, (enc x).length = z) (hn : 0 < n) :
    ∃ cur, Blk w g e cur ∧ B ≤ g ∧ n ≤ cap ∧ cap ≤ maxLen ∧ cur.size = cap * z ∧ HoldsK enc z w g 0 (Array.range n) := by
  obtain ⟨-, h⟩ := h
  rcases h with ⟨h0, h1⟩ | ⟨g', cap', cur, h0, hb, hg, h1, h2, hs, ht⟩
  · omega
  · cases h0
    have hg' : Blk w g e cur := hg
    refine ⟨cur, hg, hb, h1, h2, hs, fun k hk => ?_⟩
    rw [size_flatK, Array.size_range] at hk
    rw [get_flatK _ _ _ _ (by rw [Array.size_range]; exact hk), Nat.zero_add]
    obtain ⟨i, j, hi, hj, rfl⟩ := split_index hk
    have e1 : (i * z + j) / z = i := by rw [Nat.mul_comm, Nat.mul_add_div (by omega), Nat.div_eq_of_lt hj, Nat.add_zero]
    have e2 : (i * z + j) % z = j := by rw [Nat.mul_comm, Nat.mul_add_mod, Nat.mod_eq_of_lt hj]
    rw [e1, e2]
    refine ⟨?_, hg'.frozen _⟩
    rw [hg'.cell]
    have hx := hf.2 i hi j hj
    rw [← ht, List.getElem?_take, if_pos hk] at hx
    have hr : (Array.range n)[i]! = i := by simp [hi]
    rw [hr]
    have hlen : j < (enc i).length := by rw [hz]; exact hj
    rw [List.getElem?_eq_getElem hlen] at hx
    rw [getElem!_pos (enc i) j hlen]
    simpa using hx

theorem owns_sorted {B e z n g cap : Nat} {w : World} {enc : Nat → List Value} {cur : Array Value} (hg : Blk w g e cur) (hb : B ≤ g) (h1 : n ≤ cap) (h2 : cap ≤ maxLen) (hs : cur.size = cap * z) (hz : ∀ x, (enc x).length = z)
    (m : Nat) (d : Array Nat) (os : Array Obj) (hd : d.size = n) (hH : HoldsK enc z w g 0 (Array.range n)) (ys : List Value) (hy : Flat z n (fun i => enc d[i]!) ys) :
    (sortWorldK enc z w g 0 m d os).ownsRow B e z (.slice (some ⟨g, 0, none⟩) n cap) n ys := by
  obtain ⟨cur', hb', hs'⟩ := blk_sortWorld enc z w g m e d os cur hg
  have H := holdsK_sortWorldK enc z w g 0 m (Array.range n) d os hg.lt hH (by rw [hd, Array.size_range])
  refine ⟨hy.1, .inr ⟨g, cap, cur', rfl, hb, hb', h1, h2, by rw [hs', hs], ?_⟩⟩
  have hle : n * z ≤ cur'.size := by rw [hs', hs]; exact Nat.mul_le_mul_right _ h1
  apply List.ext_getElem?
  intro k
  rw [List.getElem?_take]
  by_cases hk : k < n * z
  · rw [if_pos hk]
    obtain ⟨i, j, hi, hj, rfl⟩ := split_index hk
    have hc := (H.cell (i := i) (c := j) (by rw [hd]; exact hi) hj).1
    rw [Nat.zero_add, hb'.cell] at hc
    rw [hy.2 i hi j hj]
    have hlen : j < (enc d[i]!).length := by rw [hz]; exact hj
    rw [getElem!_pos (enc d[i]!) j hlen] at hc
    rw [List.getElem?_eq_getElem hlen]
    simpa using hc
  · rw [if_neg hk, List.getElem?_eq_none (by rw [hy.1]; omega)]

/-! The elements at the places that the sort puts ahead. -/
theorem getD_in {α : Type} (L : List α) (x : α) {i : Nat} (h : i < L.length) : L.getD i x = L[i] := by simp [h]
theorem getD_out {α : Type} (L : List α) (x : α) {i : Nat} (h : L.length ≤ i) : L.getD i x = x := by simp [List.getElem?_eq_none h]
theorem range_list (n : Nat) : ((Array.range n).extract 0 n).toList = List.range n := by simp
theorem map_getD {α : Type} (L : List α) (x : α) : (List.range L.length).map (fun i => L.getD i x) = L := by
  apply List.ext_getElem
  · simp
  · intro i h1 h2
    simp [h2]
theorem picks_perm {α : Type} (L : List α) (x : α) (d : Array Nat) (h : (d.extract 0 L.length).toList.Perm (List.range L.length)) (hd : d.size = L.length) : (d.toList.map fun i => L.getD i x).Perm L := by
  have e : d.extract 0 L.length = d := by rw [← hd]; simp
  rw [e] at h
  have := h.map (fun i => L.getD i x)
  rwa [map_getD] at this

theorem lvCs_flat : ∀ (L : List Lv) (i j : Nat) (h : i < L.length), j < 10 → (lvCs L)[i * 10 + j]? = (lvC L[i])[j]?
  | l :: r, 0, j, _, hj => by
    rw [lvCs, List.getElem?_append_left (by simpa [lvC] using hj)]
    simp
  | l :: r, i + 1, j, h, hj => by
    rw [lvCs, List.getElem?_append_right (by simp [lvC]; omega)]
    have : (i + 1) * 10 + j - (lvC l).length = i * 10 + j := by simp [lvC]; omega
    rw [this, lvCs_flat r i j (by simpa using h) hj]
    simp
theorem lvCs_length : ∀ L : List Lv, (lvCs L).length = L.length * 10
  | [] => rfl
  | l :: r => by rw [lvCs, List.length_append, lvCs_length r, List.length_cons]; simp [lvC]; omega

/-- Whatever stands in a list, told by its places: the list that the places d pick. -/
def pick {α : Type} (L : List α) (x : α) (d : Array Nat) : List α := d.toList.map fun i => L.getD i x
theorem pick_len {α : Type} (L : List α) (x : α) (d : Array Nat) : (pick L x d).length = d.size := by simp [pick]
theorem pick_at {α : Type} (L : List α) (x : α) (d : Array Nat) (i : Nat) (h : i < (pick L x d).length) : (pick L x d)[i] = L.getD d[i]! x := by
  have h' : i < d.size := by rw [← pick_len L x d]; exact h
  simp [pick, h']

theorem sortLv_ok {B : Nat} {w : World} {v : Value} {L : List Lv} (h : LvW B w v L) (hn : 0 < L.length) (hb : L.length ≤ 4096) :
    Calls Tryz.prog 12 #[v, .func (.func 13) #[] #[]] w fun e w' => e = .returned (.tuple #[]) ∧ ∃ M : List Lv, M.Perm L ∧ M.Pairwise (fun a b => ltL b a = false) ∧ LvW B w' v M ∧ Kept (fun k => v.ownBlock = some k) w w' := by
  obtain ⟨a, c, rfl, -, hr⟩ := owns_read h
  obtain ⟨g, cur0, rfl, -, -, -, -⟩ := hr hn
  have hz : ∀ x, (lvC (L.getD x lvX)).length = 10 := fun _ => rfl
  have hf : Flat 10 L.length (fun i => lvC (L.getD i lvX)) (lvCs L) := ⟨lvCs_length L, fun i hi j hj => by rw [lvCs_flat L i j hi hj]; simp [hi]⟩
  obtain ⟨cur, hg, hB, h1, h2, hs, hH⟩ := owns_holds h hf hz hn
  have eg : ∀ args w, (callFunc 13 args).run Tryz.prog w = .ok (.enter 13 args) w := enters_of Tryz.func13 (by kernel_rfl) rfl
  have cm : CmpLays Tryz.prog 13 #[] (fun i => lvC (L.getD i lvX)) 10 (fun i j => cmpL (L.getD i lvX) (L.getD j lvX)) g 0 (Array.range L.length).size w := fun _ _ _ _ x y => byName_any _ _ _
  have C := AnyQ.slices_SortFunc Tryz.sortLv 10 Tryz.isAgg45 Tryz.sizeOf45 (fun i => lvC (L.getD i lvX)) hz (fun x u hu => by
    simp only [lvC, List.mem_cons, List.not_mem_nil, or_false] at hu
    rcases hu with rfl | rfl | rfl | rfl | rfl | rfl | rfl | rfl | rfl | rfl <;> rfl) (fun i j => cmpL (L.getD i lvX) (L.getD j lvX)) swoL 13 #[] g 0 c (Array.range L.length) w eg cm hH hg.lt (by rw [Array.size_range]; omega)
  rw [Array.size_range] at C
  change Calls Tryz.prog 12 _ _ _ at C
  refine C.mono ?_
  rintro e w' ⟨rfl, d, m, os, hp, hs', rfl⟩
  obtain ⟨p1, -, p3⟩ := hp
  rw [Array.size_range] at p1
  rw [range_list] at p3
  have P : (pick L lvX d).Perm L := picks_perm L lvX d p3 p1
  have el : (pick L lvX d).length = L.length := by rw [pick_len, p1]
  refine ⟨rfl, pick L lvX d, P, ?_, ?_, ?_⟩
  · rw [List.pairwise_iff_getElem]
    intro i j hi hj hij
    have := hs' i j (Nat.zero_le _) hij (by rw [← el]; exact hj)
    rw [show ltOf (fun i j => cmpL (L.getD i lvX) (L.getD j lvX)) d[j]! d[i]! = ltL (L.getD d[j]! lvX) (L.getD d[i]! lvX) from ltOf_L _ _] at this
    rw [pick_at, pick_at]
    exact this
  · unfold LvW
    rw [el]
    refine owns_sorted hg hB h1 h2 hs hz m d os p1 hH _ ⟨by rw [lvCs_length, el], fun i hi j hj => ?_⟩
    rw [lvCs_flat _ i j (by rw [el]; exact hi) hj, pick_at]
  · exact (kept_sortWorld _ _ _ _ _ _ _).mono (fun k _ e => by subst e; rfl)

theorem perm_range {n : Nat} {d : Array Nat} (h : (d.extract 0 n).toList.Perm (List.range n)) (hd : d.size = n) : (∀ i, i < n → d[i]! < n) ∧ ∀ i j, i < n → j < n → i ≠ j → d[i]! ≠ d[j]! := by
  have e : d.extract 0 n = d := by rw [← hd]; simp
  rw [e] at h
  have g : ∀ i (hi : i < n), d[i]! = d.toList[i]'(by simpa [hd] using hi) := fun i hi => by simp [hd, hi]
  refine ⟨fun i hi => ?_, fun i j hi hj hne => ?_⟩
  · rw [g i hi]
    exact List.mem_range.1 (h.mem_iff.1 (List.getElem_mem _))
  · rw [g i hi, g j hj]
    have nd : d.toList.Nodup := h.nodup_iff.2 List.nodup_range
    intro e
    exact hne ((List.getElem_inj nd).1 e)

theorem sortSc_ok {B : Nat} {w : World} {v : Value} {S : List Sc} {V : List Value} (h : ScW B w v S V) (hn : 0 < S.length) (hb : S.length ≤ 4096) :
    Calls Tryz.prog 14 #[v, .func (.func 15) #[] #[]] w fun e w' => e = .returned (.tuple #[]) ∧ ∃ (M : List Sc) (V' : List Value), M.Perm S ∧ M.Pairwise (fun a b => ltS b a = false) ∧ ScW B w' v M V' ∧ Kept (fun k => v.ownBlock = some k) w w' := by
  obtain ⟨hV, ho, hrl, hdj⟩ := h
  obtain ⟨a, c, rfl, -, hr⟩ := owns_read ho
  obtain ⟨g, cur0, rfl, -, -, -, -⟩ := hr hn
  have o9 := off_own ho (by decide : 53 ≠ 9)
  have o54 := off_own ho (by decide : 53 ≠ 50)
  have hz : ∀ x, (scC (S.getD x scX) (V.getD x (.slice none 0 0))).length = 5 := fun _ => rfl
  have hf : Flat 5 S.length (fun i => scC (S.getD i scX) (V.getD i (.slice none 0 0))) (scCs S V) := ⟨scCs_len S V hV, fun i hi j hj => by rw [scCs_at S V i j hi (by omega) hj]; simp [hi, hV]⟩
  obtain ⟨cur, hg, hB, h1, h2, hs, hH⟩ := owns_holds ho hf hz hn
  have eg : ∀ args w, (callFunc 15 args).run Tryz.prog w = .ok (.enter 15 args) w := enters_of Tryz.func15 (by kernel_rfl) rfl
  have cm : CmpLays Tryz.prog 15 #[] (fun i => scC (S.getD i scX) (V.getD i (.slice none 0 0))) 5 (fun i j => cmpS (S.getD i scX) (S.getD j scX)) g 0 (Array.range S.length).size w := fun _ _ _ _ x y => byRank_any _ _ _ _ _
  have one : ∀ x, (V.getD x (.slice none 0 0)).oneCell' = true := fun x => by
    by_cases hx : x < V.length
    · obtain ⟨a, c, e⟩ := (hrl x (by omega) hx).shape
      rw [getD_in _ _ hx, e]
      rfl
    · rw [getD_out _ _ (by omega)]
      rfl
  have C := AnyQ.slices_SortFunc Tryz.sortSc 5 Tryz.isAgg53 Tryz.sizeOf53 (fun i => scC (S.getD i scX) (V.getD i (.slice none 0 0))) hz (fun x u hu => by
    simp only [scC, List.mem_cons, List.not_mem_nil, or_false] at hu
    rcases hu with rfl | rfl | rfl | rfl | rfl
    · rfl
    · rfl
    · rfl
    · rfl
    · exact one x) (fun i j => cmpS (S.getD i scX) (S.getD j scX)) swoS 15 #[] g 0 c (Array.range S.length) w eg cm hH hg.lt (by rw [Array.size_range]; omega)
  rw [Array.size_range] at C
  change Calls Tryz.prog 14 _ _ _ at C
  refine C.mono ?_
  rintro e w' ⟨rfl, d, m, os, hp, hs', rfl⟩
  obtain ⟨p1, -, p3⟩ := hp
  rw [Array.size_range] at p1
  rw [range_list] at p3
  have P : (pick S scX d).Perm S := picks_perm S scX d p3 p1
  obtain ⟨r1, r2⟩ := perm_range p3 p1
  have el : (pick S scX d).length = S.length := by rw [pick_len, p1]
  have el' : (pick V (.slice none 0 0) d).length = S.length := by rw [pick_len, p1]
  have K : Kept (fun k => (Value.slice (some ⟨g, 0, none⟩) S.length c).ownBlock = some k) w (sortWorldK (fun i => scC (S.getD i scX) (V.getD i (.slice none 0 0))) 5 w g 0 m d os) := (kept_sortWorld _ _ _ _ _ _ _).mono (fun k _ e => by subst e; rfl)
  refine ⟨rfl, pick S scX d, pick V (.slice none 0 0) d, P, ?_, ⟨by rw [el, el'], ?_, fun k hk hk' => ?_, fun i j hi hj hij g' e1 => ?_⟩, K⟩
  · rw [List.pairwise_iff_getElem]
    intro i j hi hj hij
    have := hs' i j (Nat.zero_le _) hij (by rw [← el]; exact hj)
    rw [show ltOf (fun i j => cmpS (S.getD i scX) (S.getD j scX)) d[j]! d[i]! = ltS (S.getD d[j]! scX) (S.getD d[i]! scX) from ltOf_S _ _] at this
    rw [pick_at, pick_at]
    exact this
  · rw [el]
    refine owns_sorted hg hB h1 h2 hs hz m d os p1 hH _ ⟨by rw [scCs_len _ _ (by rw [el, el']), el], fun i hi j hj => ?_⟩
    rw [scCs_at _ _ i j (by rw [el]; exact hi) (by rw [el']; exact hi) hj, pick_at, pick_at]
  · rw [pick_at, pick_at]
    have hd := r1 k (by rw [← el]; exact hk)
    rw [getD_in _ _ hd, getD_in _ _ (by omega)]
    exact (hrl _ hd (by omega)).off K o9 o54
  · rw [pick_at] at e1 ⊢
    rw [el'] at hi hj
    have d1 := r1 i hi
    have d2 := r1 j hj
    have ne := r2 i j hi hj (by omega)
    rw [getD_in _ _ (by omega)] at e1 ⊢
    rcases Nat.lt_or_gt_of_ne ne with q | q
    · exact hdj _ _ _ _ q g' e1
    · intro e2
      exact hdj _ _ _ _ q g' e2 e1
end Go.Proofs.YtijjpblmnlednaaGreatDoor
