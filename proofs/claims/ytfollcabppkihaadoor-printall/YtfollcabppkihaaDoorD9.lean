/-
  What strings.Join, strconv.Itoa, and over them 'Join', 'Digits' of words and 'line', 'borrowWord' of print answer. Condition: the list lies in memory; the library's table of powers.
  A region that draws its order, and reads a cell that it writes at its end: what is read before one named operation may be taken first.
-/
import Derived.Test.YtfollcabppkihaaDoorD8
import Derived.Test.YtfollcabppkihaaDoorD2
import Derived.Lib.SmallJoins
import Derived.Deep.RegionHeld
import Derived.Deep.RegionLaw
namespace Go.Proofs.YtfollcabppkihaaDoor
open Go.RowKit Go.Lib Go.Shelf

theorem tail_len (c : UInt8) : ∀ r : List (List UInt8), (∀ y ∈ r, y.length ≤ 64) → (joinTail [c] r).length ≤ 65 * r.length
  | [], _ => Nat.le_refl _
  | y :: r, h => by
    have := tail_len c r (fun z hz => h z (List.mem_cons_of_mem _ hz))
    have hy := h y (List.mem_cons_self ..)
    rw [tail_cons, List.length_cons, List.length_append, List.length_cons]
    omega
theorem join_len {L : List ByteArray} (h : Good L) : (join (L.map (·.data.toList)) [44]).length ≤ 140737488355328 := by
  have hw := good_words h
  have h8 := h.1
  cases L with
  | nil => exact Nat.zero_le _
  | cons x r =>
    rw [List.map_cons, join_cons, List.length_append]
    have h1 := word_short (hw x (List.mem_cons_self ..))
    rw [← size_list] at h1
    have h2 := tail_len 44 (r.map (·.data.toList)) (fun y hy => by
      obtain ⟨z, hz, rfl⟩ := List.mem_map.1 hy
      have := word_short (hw z (List.mem_cons_of_mem _ hz))
      rwa [← size_list] at this)
    rw [List.length_map] at h2
    rw [List.length_cons] at h8
    omega


theorem xJoin : Builder.Extra Tryd.prog Tryd.laysJoin_ren := { sizeBuilder := by kernel_rfl, liesBuilder := by kernel_rfl, t5 := Tryd.underlying5, a5 := Tryd.isAgg5, z5 := Tryd.sizeOf5, v5 := Tryd.zeroValue5, infoByte := by kernel_rfl, cellsByte := by kernel_rfl, sizeByte := by kernel_rfl, neB5 := by decide }


theorem sjoin_any (sp : List UInt8) (a : Option Addr) (c : Nat) (L : List ByteArray) (w : World) (hr : RowL w a L) (hc : L.length ≤ c) (hn : L.length ≤ 140737488355328) (hne : L ≠ []) (hlen : (join (L.map (·.data.toList)) sp).length ≤ 140737488355328) :
    Calls Tryd.prog 18 #[.slice a L.length c, .string (mk sp)] w fun e w' => e = .returned (.string (mk (join (L.map (·.data.toList)) sp))) ∧ Below w.heap.size w w' := by
  have hpos : 0 < L.length := by cases L with | nil => exact absurd rfl hne | cons _ _ => simp
  obtain ⟨b, off, rfl, hb, hcs⟩ := hr hpos
  exact Any.strings_Join Tryd.laysJoin xJoin b off c L (mk sp) w (fun j x hj => by
    have hk : j < L.length := (List.getElem?_eq_some_iff.1 hj).1
    rw [hcs j hk, gt_eq hk, (List.getElem?_eq_some_iff.1 hj).2]) hb hn hc hlen
theorem sjoin_none (sp : List UInt8) (a : Option Addr) (c : Nat) (w : World) :
    Calls Tryd.prog 18 #[.slice a 0 c, .string (mk sp)] w fun e w' => e = .returned (.string (mk [])) ∧ Below w.heap.size w w' :=
  Calls.mono (Any.strings_Join_none Tryd.laysJoin xJoin a c (mk sp) w) fun e w' h => ⟨h.1, by rw [h.2]; exact Below.refl _ _⟩
theorem sjoin_ok (a : Option Addr) (c : Nat) (L : List ByteArray) (w : World) (hr : RowL w a L) (hc : L.length ≤ c) (hg : Good L) (hne : L ≠ []) :
    Calls Tryd.prog 18 #[.slice a L.length c, .string ⟨#[44]⟩] w fun e w' => e = .returned (.string (mk (join (L.map (·.data.toList)) [44]))) ∧ Below w.heap.size w w' :=
  sjoin_any [44] a c L w hr hc (by have := hg.1; omega) hne (join_len hg)
theorem join_ok (a : Option Addr) (c : Nat) (L : List ByteArray) (w : World) (hr : RowL w a L) (hs : Short L) (hc : L.length ≤ c) (hn : L.length ≤ 9223372036854775807) :
    Calls Tryd.prog 50 #[.slice a L.length c] w fun e w' => e = .returned (.string (joinB L)) ∧ Below w.heap.size w w' := by
  by_cases h0 : L = []
  · have e : joinB L = mk [45] := by unfold joinB; rw [if_pos h0]
    rw [e, h0]
    show Calls Tryd.prog 50 #[.slice a 0 c] w _
    go_enter Tryd.func50, Tryd.ntmps50
    go_wp2_with fail
    go_ret
    exact ⟨rfl, Below.refl _ _⟩
  have hpos : 0 < L.length := by cases L with | nil => exact absurd rfl h0 | cons _ _ => simp
  by_cases h1 : L = [mk [42]]
  · have e : joinB L = mk [42] := by unfold joinB; rw [if_neg h0, if_pos h1]
    rw [e]
    obtain ⟨b, off, rfl, hb, hcs⟩ := hr hpos
    have hcell := hcs 0 hpos
    rw [Nat.add_zero, show gt L 0 = ⟨#[42]⟩ by rw [h1]; rfl] at hcell
    rw [h1]
    show Calls Tryd.prog 50 #[.slice (some ⟨b, off, none⟩) 1 c] w _
    clear hcs hr
    go_enter Tryd.func50, Tryd.ntmps50
    go_wp2_with fail
    go_ret
    exact ⟨rfl, Below.refl _ _⟩
  have e : joinB L = if good L then mk (join (L.map (·.data.toList)) [44]) else mk [] := by unfold joinB; rw [if_neg h0, if_neg h1]
  have U := unlike_ok a c L w hr hs hc hn
  have J := sjoin_ok a c L w hr hc
  obtain ⟨b, off, rfl, hb, hcs⟩ := hr hpos
  have hcell := hcs 0 hpos
  rw [Nat.add_zero] at hcell
  clear hcs hr hs
  have HE : Hd (joinB L = if good L then mk (join (L.map (·.data.toList)) [44]) else mk []) := ⟨e⟩
  have H1 : Hd (L.length = 1 → gt L 0 ≠ mk [42]) := ⟨fun hl e2 => h1 (by
    cases L with
    | nil => exact absurd rfl h0
    | cons x r =>
      have : r = [] := by cases r with | nil => rfl | cons _ _ => simp at hl
      subst this
      rw [show gt [x] 0 = x from rfl] at e2
      rw [e2])⟩
  have HJ : Hd (Good L → Calls Tryd.prog 18 #[.slice (some ⟨b, off, none⟩) L.length c, .string ⟨#[44]⟩] w fun e w' => e = .returned (.string (mk (join (L.map (·.data.toList)) [44]))) ∧ Below w.heap.size w w') := ⟨fun g => J g h0⟩
  clear e J h1
  generalize hx : joinB L = R at *
  clear hx
  generalize mk (join (L.map (·.data.toList)) [44]) = S at *
  have HG : Hd (good L = true → Good L) := ⟨good_iff.1⟩
  have hnil : ¬ L.length = 0 := by omega
  clear h0
  cases hg : good L with
  | false =>
    rw [hg] at U
    have hR : R = mk [] := by rw [HE.out, hg]; rfl
    subst hR
    by_cases hl : L.length = 1
    · have ne : ((gt L 0).toList == [42]) = false := by have := str_ne (H1.out hl); rw [ByteArray.toList_eq (mk [42]), mk_list] at this; exact this
      clear HE H1 HJ HG hg
      generalize gt L 0 = y at *
      generalize L.length = m at *
      subst hl
      go_enter Tryd.func50, Tryd.ntmps50
      go_wp2_with (go_at_call 65; refine U.mono ?_; rintro e w' ⟨rfl, hw⟩; obtain rfl := hw.symm)
      go_ret
      exact ⟨rfl, Below.refl _ _⟩
    · clear HE H1 HJ HG hg
      generalize gt L 0 = y at *
      generalize L.length = m at *
      go_enter Tryd.func50, Tryd.ntmps50
      go_wp2_with (go_at_call 65; refine U.mono ?_; rintro e w' ⟨rfl, hw⟩; obtain rfl := hw.symm)
      go_ret
      exact ⟨rfl, Below.refl _ _⟩
  | true =>
    rw [hg] at U
    have hR : R = S := by rw [HE.out, hg]; rfl
    subst hR
    have J := HJ.out (HG.out hg)
    by_cases hl : L.length = 1
    · have ne : ((gt L 0).toList == [42]) = false := by have := str_ne (H1.out hl); rw [ByteArray.toList_eq (mk [42]), mk_list] at this; exact this
      clear HE H1 HJ HG hg
      generalize gt L 0 = y at *
      generalize L.length = m at *
      subst hl
      go_enter Tryd.func50, Tryd.ntmps50
      go_wp2_with (first
        | (go_at_call 65; refine U.mono ?_; rintro e w' ⟨rfl, hw⟩; obtain rfl := hw.symm)
        | (go_at_call 18; refine J.mono ?_; rintro e w' ⟨rfl, hb2⟩))
      go_ret
      exact ⟨rfl, hb2⟩
    · clear HE H1 HJ HG hg
      generalize gt L 0 = y at *
      generalize L.length = m at *
      go_enter Tryd.func50, Tryd.ntmps50
      go_wp2_with (first
        | (go_at_call 65; refine U.mono ?_; rintro e w' ⟨rfl, hw⟩; obtain rfl := hw.symm)
        | (go_at_call 18; refine J.mono ?_; rintro e w' ⟨rfl, hb2⟩))
      go_ret
      exact ⟨rfl, hb2⟩


end Go.Proofs.YtfollcabppkihaaDoor

namespace Go.Proofs.YtfollcabppkihaaDoor
open Go

section
variable {P : Program} {ops : Array Oper} {Q : Exit → Act → World → Prop} {md : Region.Mode} {T U : World → Prop} {j0 : Nat}

/-- Whatever order is picked: T holds behind each operation, and U as long as number j0 has not come up. -/
def AnyG (P : Program) (md : Region.Mode) (ops : Array Oper) (Q : Exit → Act → World → Prop) (T U : World → Prop) (j0 : Nat) : Nat → Array Bool → Act → World → Prop
  | 0, l, a, w => Region.ready md ops l = [] ∧ Q .normal a w
  | n + 1, l, a, w => (Region.ready md ops l = [] → Q .normal a w) ∧
    ∀ i ∈ Region.ready md ops l, wpOp P ops Q i (fun a' w' => (T w' ∧ ((l.setIfInBounds i true).getD j0 true = false → U w')) ∧ AnyG P md ops Q T U j0 n (l.setIfInBounds i true) a' w') a w

theorem AnyG.any : ∀ (n : Nat) (l : Array Bool) (a : Act) (w : World), AnyG P md ops Q T U j0 n l a w → wpAny P md ops Q n l a w
  | 0, _, _, _, h => h
  | n + 1, _, _, _, h => ⟨h.1, fun i hi => wpOp_mono (fun a' w' k => AnyG.any n _ a' w' k.2) (h.2 i hi)⟩

theorem AnyG.start {id : Nat} {a : Act} {w : World} (hm : P.follows .mixedOrders = true)
    (h : AnyG P .any ops Q T U j0 ops.size (Array.replicate ops.size false) a w.drew) : (Code.region id ops true).wp P Q a w :=
  wp_region_any hm (AnyG.any _ _ _ _ h)

/-- What may come up and yields in each world in which it can come up may be taken first. -/
theorem AnyG.first {i : Nat} {oi : Oper} {v : Value} {J : Array Bool → Prop} {V : World → Prop} (hi : ops[i]? = some oi) (hne : i ≠ j0)
    (hsel : ∀ (j : Nat) (o : Oper) cs b, ops[j]? = some o → o.op ≠ .select cs b) (hQ : ∀ c a w, Q (.panic c) (a.put oi.dst v) w → Q (.panic c) a w)
    (hJ : ∀ l j, J l → l.getD i true = false → j ∈ Region.ready md ops l → j ≠ i → J (l.setIfInBounds j true))
    (hV : ∀ l w, J l → T w → (l.getD j0 true = false → U w) → V w) :
    ∀ (n : Nat) (l : Array Bool) (a : Act) (w : World),
      (∀ j oj, ops[j]? = some oj → j ≠ i → l.getD j true = false → (∀ e ∈ oj.after, Region.binds md e = true → e.on ≠ i) → oi.apart ops oj = true) →
      i ∈ Region.ready md ops l → YieldsIf P ops V oi v a → J l → T w → (l.getD j0 true = false → U w) →
      AnyG P md ops Q T U j0 n (l.setIfInBounds i true) (a.put oi.dst v) w → AnyG P md ops Q T U j0 (n + 1) l a w := by
  intro n
  induction n with
  | zero =>
    intro l a w _ hr hy hj hT hU H
    refine ⟨fun h => absurd hr (by rw [h]; exact List.not_mem_nil), fun j hj' => ?_⟩
    by_cases c : j = i
    · subst c
      exact hy.wpOp hi (hV l w hj hT hU) ⟨⟨hT, fun h => hU (by rw [getD_set_ne true hne] at h; exact h)⟩, H⟩
    · have h1 := ready_mono hj' c
      rw [H.1] at h1
      cases h1
  | succ n ih =>
    intro l a w hf hr hy hj hT hU H
    refine ⟨fun h => absurd hr (by rw [h]; exact List.not_mem_nil), fun j hj' => ?_⟩
    by_cases c : j = i
    · subst c
      exact hy.wpOp hi (hV l w hj hT hU) ⟨⟨hT, fun h => hU (by rw [getD_set_ne true hne] at h; exact h)⟩, H⟩
    · have hun : l.getD i true = false := (mem_ready.1 hr).1
      have hj2 := hJ l j hj hun hj' c
      obtain ⟨hjl, oj, hoj, hall⟩ := mem_ready.1 hj'
      have hno : ∀ e ∈ oj.after, Region.binds md e = true → e.on ≠ i := fun e he hb hon => by
        have h1 := hall e he hb
        rw [hon] at h1
        rcases Nat.lt_or_ge i l.size with h' | h'
        · simp [h'] at h1 hun; rw [hun] at h1; cases h1
        · simp [Array.getElem?_eq_none h'] at h1
      have h2 := wpOp_putIf hoj (hf j oj hoj c hjl hno) (fun cs b => hsel i oi cs b hi) (fun cs b => hsel j oj cs b hoj) hQ hy (H.2 j (ready_mono hj' c))
      refine wpOp_mono (fun a' w' k => ?_) h2
      obtain ⟨k1, ⟨k2, k3⟩, k4⟩ := k
      have hU' : (l.setIfInBounds j true).getD j0 true = false → U w' := fun h => k3 (by
        rw [Array.setIfInBounds_comm _ _ (Ne.symm c), getD_set_ne true hne]; exact h)
      refine ⟨⟨k2, hU'⟩, ih (l.setIfInBounds j true) a' w' ?_ (ready_mono hr (Ne.symm c)) k1 hj2 k2 hU' (by rw [Array.setIfInBounds_comm _ _ c]; exact k4)⟩
      intro q oq hq hqi hql hqn
      refine hf q oq hq hqi ?_ hqn
      by_cases e : j = q
      · rw [← e]; exact hjl
      · rw [getD_set_ne true e] at hql; exact hql

/-- What yields in every world that meets T is taken first. -/
theorem AnyG.take {i : Nat} {oi : Oper} {v : Value} {n : Nat} {l : Array Bool} {a : Act} {w : World} (hi : ops[i]? = some oi)
    (hs : Region.noSelect ops = true) (hf : Region.free md ops l i = true) (hr : (Region.ready md ops l).contains i = true) (hne : i ≠ j0)
    (hQ : ∀ c a w, Q (.panic c) (a.put oi.dst v) w → Q (.panic c) a w) (hy : YieldsIf P ops T oi v a) (hT : T w ∧ (l.getD j0 true = false → U w))
    (h : AnyG P md ops Q T U j0 n (l.setIfInBounds i true) (a.put oi.dst v) w) : AnyG P md ops Q T U j0 (n + 1) l a w :=
  AnyG.first (J := fun _ => True) (V := T) hi hne (Region.noSelect_spec hs) hQ (fun _ _ _ _ _ _ => trivial) (fun _ _ _ h _ => h) n l a w (Region.free_spec hi hf) (by simpa using hr) hy trivial hT.1 hT.2 h

/-- Does number j wait for number i? -/
def waits (md : Region.Mode) (ops : Array Oper) (j i : Nat) : Bool := match ops[j]? with
  | some o => o.after.any (fun e => Region.binds md e && e.on == i)
  | none => false

/-- What yields in every world that meets T and U, and is waited for by number j0, is taken first. -/
theorem AnyG.early {i : Nat} {oi : Oper} {v : Value} {n : Nat} {l : Array Bool} {a : Act} {w : World} (hi : ops[i]? = some oi)
    (hs : Region.noSelect ops = true) (hf : Region.free md ops l i = true) (hr : (Region.ready md ops l).contains i = true) (hne : i ≠ j0) (hw : waits md ops j0 i = true) (hl : l.getD j0 true = false)
    (hQ : ∀ c a w, Q (.panic c) (a.put oi.dst v) w → Q (.panic c) a w) (hy : YieldsIf P ops (fun w => T w ∧ U w) oi v a) (hT : T w ∧ (l.getD j0 true = false → U w))
    (h : AnyG P md ops Q T U j0 n (l.setIfInBounds i true) (a.put oi.dst v) w) : AnyG P md ops Q T U j0 (n + 1) l a w := by
  refine AnyG.first (J := fun l => l.getD j0 true = false) (V := fun w => T w ∧ U w) hi hne (Region.noSelect_spec hs) hQ (fun l j hj hun hj' _ => ?_) (fun l w hj hT hU => ⟨hT, hU hj⟩) n l a w (Region.free_spec hi hf) (by simpa using hr) hy hl hT.1 hT.2 h
  by_cases e : j = j0
  · subst e
    obtain ⟨_, oj, hoj, hall⟩ := mem_ready.1 hj'
    unfold waits at hw
    rw [hoj] at hw
    obtain ⟨e, he, hb⟩ := Array.any_eq_true'.1 hw
    simp only [Bool.and_eq_true, beq_iff_eq] at hb
    have h1 := hall e he hb.1
    rw [hb.2] at h1
    rcases Nat.lt_or_ge i l.size with h' | h'
    · simp [h'] at h1 hun; rw [hun] at h1; cases h1
    · simp [Array.getElem?_eq_none h'] at h1
  · rw [getD_set_ne true e]; exact hj

theorem put_at {a : Act} {x : Option Tmp} {d : Tmp} (h : x = some d) (v : Value) : a.put x v = ⟨a.tmps.setIfInBounds d v, a.defers⟩ := by subst h; rfl
/-- The two, with the place of the value told. -/
theorem AnyG.takeAt (i d : Nat) {oi : Oper} {v : Value} {n : Nat} {l : Array Bool} {a : Act} {w : World} (hi : ops[i]? = some oi) (hd : oi.dst = some d)
    (hs : Region.noSelect ops = true) (hf : Region.free md ops l i = true) (hr : (Region.ready md ops l).contains i = true) (hne : i ≠ j0)
    (hQ : ∀ c a w, Q (.panic c) (a.put oi.dst v) w → Q (.panic c) a w) (hT : T w ∧ (l.getD j0 true = false → U w)) (hw : Region.wanted oi (yielded ops a.tmps) = true)
    (hy : ∀ w, T w → (execOp a.eval oi).run P w = .ok (.value v) w)
    (h : AnyG P md ops Q T U j0 n (l.setIfInBounds i true) ⟨a.tmps.setIfInBounds d v, a.defers⟩ w) : AnyG P md ops Q T U j0 (n + 1) l a w :=
  AnyG.take hi hs hf hr hne hQ (.inl ⟨hw, hy⟩) hT (by rw [put_at hd]; exact h)
theorem AnyG.earlyAt (i d : Nat) {oi : Oper} {v : Value} {n : Nat} {l : Array Bool} {a : Act} {w : World} (hi : ops[i]? = some oi) (hd : oi.dst = some d)
    (hs : Region.noSelect ops = true) (hf : Region.free md ops l i = true) (hr : (Region.ready md ops l).contains i = true) (hne : i ≠ j0) (hwt : waits md ops j0 i = true) (hl : l.getD j0 true = false)
    (hQ : ∀ c a w, Q (.panic c) (a.put oi.dst v) w → Q (.panic c) a w) (hT : T w ∧ (l.getD j0 true = false → U w)) (hw : Region.wanted oi (yielded ops a.tmps) = true)
    (hy : ∀ w, T w ∧ U w → (execOp a.eval oi).run P w = .ok (.value v) w)
    (h : AnyG P md ops Q T U j0 n (l.setIfInBounds i true) ⟨a.tmps.setIfInBounds d v, a.defers⟩ w) : AnyG P md ops Q T U j0 (n + 1) l a w :=
  AnyG.early hi hs hf hr hne hwt hl hQ (.inl ⟨hw, hy⟩) hT (by rw [put_at hd]; exact h)

theorem AnyG.putAt {n : Nat} {l : Array Bool} {a : Act} {w : World} {x : Option Tmp} {v : Value} (d : Nat) (hd : x = some d)
    (h : AnyG P md ops Q T U j0 n l ⟨a.tmps.setIfInBounds d v, a.defers⟩ w) : AnyG P md ops Q T U j0 n l (a.put x v) w := by rw [put_at hd]; exact h

/-- One after another of those that may come up. -/
def AllG (P : Program) (md : Region.Mode) (ops : Array Oper) (Q : Exit → Act → World → Prop) (T U : World → Prop) (j0 n : Nat) (l : Array Bool) (a : Act) (w : World) (rs : List Nat) : Prop :=
  ∀ i ∈ rs, wpOp P ops Q i (fun a' w' => (T w' ∧ ((l.setIfInBounds i true).getD j0 true = false → U w')) ∧ AnyG P md ops Q T U j0 n (l.setIfInBounds i true) a' w') a w
theorem AllG.nil {n : Nat} {l : Array Bool} {a : Act} {w : World} : AllG P md ops Q T U j0 n l a w [] := fun _ h => by cases h
theorem AllG.cons {n : Nat} {l : Array Bool} {a : Act} {w : World} {i : Nat} {o : Oper} {rs : List Nat} (ho : ops[i]? = some o)
    (h : ∀ K' : Act → World → Prop, Shut (∀ a w, (T w ∧ ((l.setIfInBounds i true).getD j0 true = false → U w)) → AnyG P md ops Q T U j0 n (l.setIfInBounds i true) a w → K' a w) → if Region.wanted o (yielded ops a.tmps) = true then Oper.wp P o a w K' Q else K' (a.put o.dst undef) w)
    (hs : AllG P md ops Q T U j0 n l a w rs) : AllG P md ops Q T U j0 n l a w (i :: rs) := fun j hj => by
  rcases List.mem_cons.1 hj with rfl | hj
  · exact wpOp_step ho (fun K' hK => h K' (fun a w h1 h2 => hK a w ⟨h1, h2⟩))
  · exact hs j hj
theorem AnyG.ready {rs : List Nat} {n : Nat} {l : Array Bool} {a : Act} {w : World} (hr : Region.ready md ops l = rs) (hne : rs ≠ [])
    (h : AllG P md ops Q T U j0 n l a w rs) : AnyG P md ops Q T U j0 (n + 1) l a w := ⟨fun h0 => absurd (hr ▸ h0) hne, hr ▸ h⟩
theorem AnyG.done {l : Array Bool} {a : Act} {w : World} (hr : Region.ready md ops l = []) (h : Q .normal a w) : ∀ n, AnyG P md ops Q T U j0 n l a w
  | 0 => ⟨hr, h⟩
  | _ + 1 => ⟨fun _ => h, by rw [hr]; intro i hi; cases hi⟩
/-- What is asked of an operation that is taken first, as one test. -/
def Rok (md : Region.Mode) (ops : Array Oper) (l : Array Bool) (i j0 : Nat) : Bool := Region.noSelect ops && (Region.free md ops l i && ((Region.ready md ops l).contains i && !(i == j0)))
theorem Rok.out {md : Region.Mode} {ops : Array Oper} {l : Array Bool} {i j0 : Nat} (h : Rok md ops l i j0 = true) : Region.noSelect ops = true ∧ Region.free md ops l i = true ∧ (Region.ready md ops l).contains i = true ∧ i ≠ j0 := by
  unfold Rok at h
  rw [Bool.and_eq_true, Bool.and_eq_true, Bool.and_eq_true] at h
  exact ⟨h.1, h.2.1, h.2.2.1, fun e => by have := h.2.2.2; rw [e] at this; simp at this⟩
theorem AnyG.tk (i d : Nat) {oi : Oper} {v : Value} {n : Nat} {l : Array Bool} {a : Act} {w : World} (hi : ops[i]? = some oi) (hd : oi.dst = some d) (hb : Rok md ops l i j0 = true)
    (hQ : ∀ c a w, Q (.panic c) (a.put oi.dst v) w → Q (.panic c) a w) (hT : T w ∧ (l.getD j0 true = false → U w)) (hw : Region.wanted oi (yielded ops a.tmps) = true)
    (hy : ∀ w, T w → (execOp a.eval oi).run P w = .ok (.value v) w)
    (h : AnyG P md ops Q T U j0 n (l.setIfInBounds i true) ⟨a.tmps.setIfInBounds d v, a.defers⟩ w) : AnyG P md ops Q T U j0 (n + 1) l a w :=
  AnyG.takeAt i d hi hd (Rok.out hb).1 (Rok.out hb).2.1 (Rok.out hb).2.2.1 (Rok.out hb).2.2.2 hQ hT hw hy h
theorem AnyG.ek (i d : Nat) {oi : Oper} {v : Value} {n : Nat} {l : Array Bool} {a : Act} {w : World} (hi : ops[i]? = some oi) (hd : oi.dst = some d) (hb : (Rok md ops l i j0 && (waits md ops j0 i && !(l.getD j0 true))) = true)
    (hQ : ∀ c a w, Q (.panic c) (a.put oi.dst v) w → Q (.panic c) a w) (hT : T w ∧ (l.getD j0 true = false → U w)) (hw : Region.wanted oi (yielded ops a.tmps) = true)
    (hy : ∀ w, T w ∧ U w → (execOp a.eval oi).run P w = .ok (.value v) w)
    (h : AnyG P md ops Q T U j0 n (l.setIfInBounds i true) ⟨a.tmps.setIfInBounds d v, a.defers⟩ w) : AnyG P md ops Q T U j0 (n + 1) l a w := by
  rw [Bool.and_eq_true, Bool.and_eq_true] at hb
  have hr := Rok.out hb.1
  exact AnyG.earlyAt i d hi hd hr.1 hr.2.1 hr.2.2.1 hr.2.2.2 hb.2.1 (by simpa using hb.2.2) hQ hT hw hy h
/-- What is not asked for is passed by. -/
theorem AnyG.sk (i d : Nat) {oi : Oper} {n : Nat} {l : Array Bool} {a : Act} {w : World} (hi : ops[i]? = some oi) (hd : oi.dst = some d) (hb : Rok md ops l i j0 = true)
    (hQ : ∀ c a w, Q (.panic c) (a.put oi.dst undef) w → Q (.panic c) a w) (hT : T w ∧ (l.getD j0 true = false → U w)) (hw : Region.wanted oi (yielded ops a.tmps) = false)
    (h : AnyG P md ops Q T U j0 n (l.setIfInBounds i true) ⟨a.tmps.setIfInBounds d undef, a.defers⟩ w) : AnyG P md ops Q T U j0 (n + 1) l a w :=
  AnyG.take hi (Rok.out hb).1 (Rok.out hb).2.1 (Rok.out hb).2.2.1 (Rok.out hb).2.2.2 hQ (.inr ⟨hw, rfl⟩) hT (by rw [put_at hd]; exact h)
theorem tkA {α : Type} {l : List α} {i : Nat} {a : α} : l.toArray.setIfInBounds i a = (l.set i a).toArray := List.setIfInBounds_toArray ..
theorem tkB {α : Type} {a b : α} {l : List α} : (a :: l).set 0 b = b :: l := rfl
theorem tkC {α : Type} {a b : α} {l : List α} {i : Nat} : (a :: l).set (i + 1) b = a :: l.set i b := rfl
end
end Go.Proofs.YtfollcabppkihaaDoor
