/-
  What 'slices.Clone' and 'slices.SortFunc' do to the items of a heap; what 'List' answers; what 'Same' of the reference answers. Conditions: as each theorem says them.
-/
import Derived.Test.YtomohkoenohmbaaShelf
import Derived.Test.YtomohkoenohmbaaRow
namespace Go.Proofs.Ytomohkoenohmbaa
open Go.RowKit Go.Lib Go.Sort Go.Maps

/-- A block of n items that may be written. -/
def Own (w : World) (g n : Nat) (f : Nat → Int × Int) : Prop :=
  g < w.heap.size ∧ ∀ k, k < n → (w.cell? ⟨g, k * 2, none⟩ = some (.int .u64 (f k).1) ∧ w.cell? ⟨g, k * 2 + 1, none⟩ = some (.int .i64 (f k).2)) ∧ w.frozen? ⟨g, k * 2, none⟩ = false ∧ w.frozen? ⟨g, k * 2 + 1, none⟩ = false

theorem Own.row {w : World} {g n : Nat} {f : Nat → Int × Int} (h : Own w g n f) : Row w (some ⟨g, 0, none⟩) n f :=
  fun _ => ⟨g, 0, rfl, h.1, fun k hk => by rw [Nat.zero_add]; exact (h.2 k hk).1⟩
theorem Own.congr {w : World} {g n : Nat} {f f' : Nat → Int × Int} (h : Own w g n f) (e : ∀ k, k < n → f k = f' k) : Own w g n f' :=
  ⟨h.1, fun k hk => by rw [← e k hk]; exact h.2 k hk⟩
theorem Own.kept {T : Nat → Prop} {w w' : World} {g n : Nat} {f : Nat → Int × Int} (h : Own w g n f) (k : Kept T w w') (hT : ¬ T g) : Own w' g n f :=
  ⟨Nat.lt_of_lt_of_le h.1 k.size, fun j hj => ⟨⟨(k.cell h.1 hT).trans (h.2 j hj).1.1, (k.cell h.1 hT).trans (h.2 j hj).1.2⟩, (k.frozen h.1 hT).trans (h.2 j hj).2.1, (k.frozen h.1 hT).trans (h.2 j hj).2.2⟩⟩
theorem Arr.own {w : World} {g n cap : Nat} {f : Nat → Int × Int} (h : Arr w g n cap f) : Own w g n f := ⟨h.lt, fun _ hk => ⟨h.cells hk, h.frozen _, h.frozen _⟩⟩

/-! ### slices.SortFunc -/
/-- An item's two cells. -/
def encI (x : Int × Int) : List Value := [.int .u64 x.1, .int .i64 x.2]

theorem lt_ltOf (x y : Int × Int) : ltOf ordI x y = @decide (lt x y) (ltDec x y) := by
  unfold ltOf
  rw [decide_eq_decide]
  exact (lt_iff x y).symm
theorem swoI : SWO (ltOf ordI) := by
  refine ⟨fun x => ?_, fun x y z h1 h2 => ?_, fun x y z h1 h2 => ?_⟩
  · rw [lt_ltOf]; exact ltNo (lt_irrefl x)
  · rw [lt_ltOf] at *; exact ltYes (lt_trans (ltYes_of h1) (ltYes_of h2))
  · rw [lt_ltOf] at *; exact ltNo (ge_trans (ltNo_of h1) (ltNo_of h2))

theorem cmpLays29 (blk off size : Nat) (w : World) : CmpLays Try.prog 29 #[] encI 2 ordI blk off size w := fun _ _ _ _ x y => order_any x y _

/-- The first n of f, in an array. -/
def arrOf (f : Nat → Int × Int) (n : Nat) : Array (Int × Int) := (Array.range n).map f
theorem arrOf_size (f : Nat → Int × Int) (n : Nat) : (arrOf f n).size = n := by simp [arrOf]
theorem arrOf_get (f : Nat → Int × Int) (n i : Nat) (h : i < n) : (arrOf f n)[i]! = f i := by simp [arrOf, h]

theorem Own.holds {w : World} {g n : Nat} {f : Nat → Int × Int} (h : Own w g n f) : HoldsK encI 2 w g 0 (arrOf f n) := by
  intro j hj
  rw [size_flatK, arrOf_size] at hj
  rw [get_flatK _ _ _ _ (by rw [arrOf_size]; exact hj), arrOf_get f n _ (by omega), Nat.zero_add]
  obtain ⟨⟨h1, h2⟩, h3, h4⟩ := h.2 (j / 2) (by omega)
  by_cases c : j % 2 = 0
  · rw [show j / 2 * 2 = j by omega] at h1 h3
    rw [c]
    exact ⟨h1, h3⟩
  · rw [show j / 2 * 2 + 1 = j by omega] at h2 h4
    rw [show j % 2 = 1 by omega]
    exact ⟨h2, h4⟩
theorem own_of_holds {w : World} {g : Nat} {d : Array (Int × Int)} (hg : g < w.heap.size) (h : HoldsK encI 2 w g 0 d) : Own w g d.size (fun i => d[i]!) := by
  refine ⟨hg, fun k hk => ?_⟩
  have h0 := h.cell (c := 0) hk (by omega)
  have h1 := h.cell (c := 1) hk (by omega)
  simp only [Nat.zero_add, Nat.add_zero] at h0 h1
  exact ⟨⟨h0.1, h1.1⟩, h0.2, h1.2⟩

theorem kept_sortWorld (w : World) (g m : Nat) (d : Array (Int × Int)) (os : Array Obj) : Kept (fun k => k = g) w (sortWorldK encI 2 w g 0 m d os) := by
  unfold sortWorldK putRowK putRow mapBlock
  refine ⟨rfl, rfl, rfl, ?_, fun k hk hn => ?_⟩
  · rw [size_grow]
    show w.heap.size ≤ (w.heap.modify g _).size + _
    rw [Array.size_modify]
    omega
  · rw [heap_grow_old _ _ (by show k < (w.heap.modify g _).size; rw [Array.size_modify]; exact hk)]
    show (w.heap.modify g _)[k]? = _
    rw [Array.getElem?_modify, if_neg (fun e => hn e.symm)]

/-- The first n of f, as a list. -/
def listOf (f : Nat → Int × Int) (n : Nat) : List (Int × Int) := (List.range n).map f
theorem listOf_len (f : Nat → Int × Int) (n : Nat) : (listOf f n).length = n := by simp [listOf]
theorem listOf_getD (f : Nat → Int × Int) (n i : Nat) (h : i < n) : (listOf f n).getD i (0, 0) = f i := by simp [listOf, h]
theorem listOf_mem (f : Nat → Int × Int) (n : Nat) (y : Int × Int) : y ∈ listOf f n ↔ ∃ i, i < n ∧ f i = y := by simp [listOf]
theorem arr_list (d : Array (Int × Int)) (n : Nat) (e : d.size = n) : d.toList = listOf (fun i => d[i]!) n := by
  subst e
  apply List.ext_getElem
  · simp [listOf]
  · intro i h1 h2
    simp only [Array.length_toList] at h1
    simp [listOf, h1]
theorem arrOf_list (f : Nat → Int × Int) (n : Nat) : (arrOf f n).toList = listOf f n := by
  apply List.ext_getElem
  · simp [listOf, arrOf]
  · intro i h1 h2
    simp [listOf, arrOf]

theorem ext_self (d : Array (Int × Int)) (n : Nat) (e : d.size = n) : d.extract 0 n = d := by subst e; simp

theorem sort_any {w : World} {g n : Nat} {f : Nat → Int × Int} (cap : Nat) (h : Own w g n f) (hn : n ≤ 4096) :
    Calls Try.prog 28 #[.slice (some ⟨g, 0, none⟩) n cap, .func (.func 29) #[] #[]] w fun e w' => e = .returned (.tuple #[]) ∧ ∃ f', Own w' g n f' ∧ (∀ i j, i < j → j < n → ¬ lt (f' j) (f' i)) ∧
      (listOf f' n).Perm (listOf f n) ∧ Kept (fun k => k = g) w w' := by
  have eg : ∀ args w, (callFunc 29 args).run Try.prog w = .ok (.enter 29 args) w := enters_of Try.func29 (by kernel_rfl) rfl
  have C := AnyQ.slices_SortFunc Try.sortItems 2 Try.isAgg29 Try.sizeOf29 encI (fun _ => rfl) (fun x v hv => by simp [encI] at hv; rcases hv with rfl | rfl <;> rfl) ordI swoI 29 #[] g 0 cap (arrOf f n) w eg (cmpLays29 g 0 _ w) h.holds h.1 (by rw [arrOf_size]; omega)
  rw [arrOf_size] at C
  change Calls Try.prog 28 _ _ _ at C
  refine C.mono ?_
  rintro e w' ⟨rfl, d', m, os, hp, hs, rfl⟩
  obtain ⟨p1, p2, p3⟩ := hp
  rw [arrOf_size] at p1
  have hl : g < (sortWorldK encI 2 w g 0 m d' os).heap.size := Nat.lt_of_lt_of_le h.1 (kept_sortWorld w g m d' os).size
  have O := own_of_holds hl (holdsK_sortWorldK encI 2 w g 0 m (arrOf f n) d' os h.1 h.holds (by rw [arrOf_size]; exact p1))
  rw [p1] at O
  refine ⟨rfl, fun i => d'[i]!, O, fun i j h1 h2 => ?_, ?_, kept_sortWorld w g m d' os⟩
  · have := hs i j (Nat.zero_le _) h1 h2
    rw [lt_ltOf] at this
    exact ltNo_of this
  · have e1 : d'.extract 0 n = d' := ext_self d' n p1
    have e2 : (arrOf f n).extract 0 n = arrOf f n := ext_self (arrOf f n) n (arrOf_size f n)
    rw [e1, e2, arr_list d' n p1, arrOf_list] at p3
    exact p3
end Go.Proofs.Ytomohkoenohmbaa
