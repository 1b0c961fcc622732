/-
  What 'Join' of the program answers; that a list is read as it was joined, and joined as it was read. Condition: the list lies in memory.
-/
import Derived.Test.YtooaojegdhamjaaDoorAwake
import Derived.Test.YtooaojegdhamjaaDoorMathB
namespace Go.Proofs.YtooaojegdhamjaaDoor
open Go.RowKit Go.Lib Go.Shelf

theorem tail_cons (c : UInt8) (y : List UInt8) (r : List (List UInt8)) : joinTail [c] (y :: r) = c :: (y ++ joinTail [c] r) := by simp [joinTail]
theorem cut_join (c : UInt8) : ∀ (r : List (List UInt8)) (x : List UInt8), c ∉ x → (∀ y ∈ r, c ∉ y) → cutL c (x ++ joinTail [c] r) = x :: r
  | [], x, hx, _ => by
    have : joinTail [c] [] = [] := rfl
    rw [this, List.append_nil, cutL_plain c x hx]
  | y :: r, x, hx, hr => by
    rw [tail_cons, cutL_at c x _ hx, cut_join c r y (hr y (List.mem_cons_self ..)) (fun z hz => hr z (List.mem_cons_of_mem _ hz))]
theorem join_cut (c : UInt8) : ∀ l : List UInt8, join (cutL c l) [c] = l
  | [] => rfl
  | b :: l => by
    have ih := join_cut c l
    have hne := cutL_ne c l
    rw [cutL_cons]
    cases hc : cutL c l with
    | nil => exact absurd hc hne
    | cons h t =>
      rw [hc, join_cons] at ih
      by_cases e : b = c
      · rw [if_pos e, join_cons, tail_cons, ih, e]
        rfl
      · rw [if_neg e, join_cons]
        show b :: (h ++ joinTail [c] t) = _
        rw [ih]

/-- The list of which these are the words; the empty text, if there is none. -/
def joinB (L : List ByteArray) : ByteArray := if L = [] then mk [45] else if L = [mk [42]] then mk [42] else if good L then mk (join (L.map (·.data.toList)) [44]) else mk []

theorem word_comma {s : ByteArray} (h : isWord s = true) : (44 : UInt8) ∉ s.data.toList := by
  rw [isWord_eq] at h
  simp only [Bool.and_eq_true] at h
  intro hm
  have h2 := h.2.1
  unfold allB at h2
  have := List.all_eq_true.1 h2 44 hm
  revert this
  decide
theorem word_short {s : ByteArray} (h : isWord s = true) : s.size ≤ 64 := by
  rw [isWord_eq] at h
  simp only [Bool.and_eq_true, decide_eq_true_eq] at h
  exact h.1
theorem good_words {L : List ByteArray} (h : Good L) : ∀ x ∈ L, isWord x = true := fun x hx => by
  obtain ⟨k, hk, rfl⟩ := List.getElem_of_mem hx
  have := (h.2 k hk).1
  rwa [gt_eq hk] at this
theorem star_no : isWord (mk [42]) = false := by rw [isWord_eq]; decide
theorem dash_no : isWord (mk [45]) = false := by rw [isWord_eq]; decide

theorem join_back {L : List ByteArray} (h : Good L) (hne : L ≠ []) : cutB 44 (mk (join (L.map (·.data.toList)) [44])) = L := by
  have hw := good_words h
  cases L with
  | nil => exact absurd rfl hne
  | cons x r =>
    unfold cutB
    rw [mk_list, List.map_cons, join_cons, cut_join 44 _ _ (word_comma (hw x (List.mem_cons_self ..))) (fun y hy => by
      obtain ⟨z, hz, rfl⟩ := List.mem_map.1 hy
      exact word_comma (hw z (List.mem_cons_of_mem _ hz))), List.map_cons, mk_of, List.map_map]
    have : (mk ∘ fun x : ByteArray => x.data.toList) = id := by funext x; exact mk_of x
    rw [this, List.map_id]

/-- A list is read as it was joined. -/
theorem list_join (L : List ByteArray) (h : joinB L ≠ mk []) : listOk (joinB L) = true ∧ listOf (joinB L) = L := by
  unfold joinB at h ⊢
  by_cases h0 : L = []
  · rw [if_pos h0]
    unfold listOk listOf
    rw [if_pos rfl, if_pos rfl, h0]
    exact ⟨rfl, rfl⟩
  rw [if_neg h0] at h ⊢
  by_cases h1 : L = [mk [42]]
  · rw [if_pos h1]
    unfold listOk listOf
    rw [if_neg (by decide), if_pos rfl, if_neg (by decide), if_pos rfl, h1]
    exact ⟨rfl, rfl⟩
  rw [if_neg h1] at h ⊢
  cases hg : good L with
  | false => rw [hg] at h; exact absurd rfl h
  | true =>
    rw [if_pos rfl]
    have hG := good_iff.1 hg
    have hb := join_back hG h0
    have n1 : mk (join (L.map (·.data.toList)) [44]) ≠ mk [45] := fun e => by
      rw [e, show cutB 44 (mk [45]) = [mk [45]] from rfl] at hb
      have := good_words hG (mk [45]) (by rw [← hb]; simp)
      rw [dash_no] at this
      cases this
    have n2 : mk (join (L.map (·.data.toList)) [44]) ≠ mk [42] := fun e => by
      rw [e, show cutB 44 (mk [42]) = [mk [42]] from rfl] at hb
      exact h1 hb.symm
    unfold listOk listOf
    rw [if_neg n1, if_neg n2, if_neg n1, if_neg n2, hb, hg]
    exact ⟨rfl, rfl⟩

/-- A list is joined as it was read. -/
theorem join_list (s : ByteArray) (h : listOk s = true) : joinB (listOf s) = s := by
  unfold listOk at h
  unfold listOf
  by_cases h0 : s = mk [45]
  · rw [if_pos h0]
    unfold joinB
    rw [if_pos rfl, h0]
  rw [if_neg h0] at h ⊢
  by_cases h1 : s = mk [42]
  · rw [if_pos h1]
    unfold joinB
    rw [if_neg (by simp), if_pos rfl, h1]
  rw [if_neg h1] at h ⊢
  rw [if_pos h]
  have hG := good_iff.1 h
  unfold joinB
  rw [if_neg (by unfold cutB; intro e; exact cutL_ne 44 _ (List.map_eq_nil_iff.1 e)), if_neg (fun e => by
    have := good_words hG (mk [42]) (by rw [e]; simp)
    rw [star_no] at this
    cases this), if_pos h]
  unfold cutB
  rw [List.map_map]
  have : ((fun x : ByteArray => x.data.toList) ∘ mk) = id := by funext x; exact mk_list x
  rw [this, List.map_id, join_cut, mk_of]

theorem tail_len (c : UInt8) : ∀ r : List (List UInt8), (∀ y ∈ r, y.length ≤ 64) → (joinTail [c] r).length ≤ 65 * r.length
  | [], _ => Nat.le_refl _
  | y :: r, h => by
    have := tail_len c r (fun z hz => h z (List.mem_cons_of_mem _ hz))
    have hy := h y (List.mem_cons_self ..)
    rw [tail_cons, List.length_cons, List.length_append, List.length_cons]
    omega
theorem join_len {L : List ByteArray} (h : Good L) : (join (L.map (·.data.toList)) [44]).length ≤ 140737488355328 := by
  have hw := good_words h
  have h8 := h.1
  cases L with
  | nil => exact Nat.zero_le _
  | cons x r =>
    rw [List.map_cons, join_cons, List.length_append]
    have h1 := word_short (hw x (List.mem_cons_self ..))
    rw [← size_list] at h1
    have h2 := tail_len 44 (r.map (·.data.toList)) (fun y hy => by
      obtain ⟨z, hz, rfl⟩ := List.mem_map.1 hy
      have := word_short (hw z (List.mem_cons_of_mem _ hz))
      rwa [← size_list] at this)
    rw [List.length_map] at h2
    rw [List.length_cons] at h8
    omega

theorem xJoin : Builder.Extra Tryd.prog Tryd.laysJoin_ren := { sizeBuilder := by kernel_rfl, liesBuilder := by kernel_rfl, t5 := Tryd.underlying5, a5 := Tryd.isAgg5, z5 := Tryd.sizeOf5, v5 := Tryd.zeroValue5, infoByte := by kernel_rfl, cellsByte := by kernel_rfl, sizeByte := by kernel_rfl, neB5 := by decide }

theorem sjoin_ok (a : Option Addr) (c : Nat) (L : List ByteArray) (w : World) (hr : RowL w a L) (hc : L.length ≤ c) (hg : Good L) (hne : L ≠ []) :
    Calls Tryd.prog 39 #[.slice a L.length c, .string ⟨#[44]⟩] w fun e w' => e = .returned (.string (mk (join (L.map (·.data.toList)) [44]))) ∧ Below w.heap.size w w' := by
  have hpos : 0 < L.length := by cases L with | nil => exact absurd rfl hne | cons _ _ => simp
  obtain ⟨b, off, rfl, hb, hcs⟩ := hr hpos
  exact Any.strings_Join Tryd.laysJoin xJoin b off c L ⟨#[44]⟩ w (fun j x hj => by
    have hk : j < L.length := (List.getElem?_eq_some_iff.1 hj).1
    rw [hcs j hk, gt_eq hk, (List.getElem?_eq_some_iff.1 hj).2]) hb (by have := hg.1; omega) hc (join_len hg)

theorem join_ok (a : Option Addr) (c : Nat) (L : List ByteArray) (w : World) (hr : RowL w a L) (hs : Short L) (hc : L.length ≤ c) (hn : L.length ≤ 9223372036854775807) :
    Calls Tryd.prog 41 #[.slice a L.length c] w fun e w' => e = .returned (.string (joinB L)) ∧ Below w.heap.size w w' := by
  by_cases h0 : L = []
  · have e : joinB L = mk [45] := by unfold joinB; rw [if_pos h0]
    rw [e, h0]
    show Calls Tryd.prog 41 #[.slice a 0 c] w _
    go_enter Tryd.func41, Tryd.ntmps41
    go_wp2_with fail
    go_ret
    exact ⟨rfl, Below.refl _ _⟩
  have hpos : 0 < L.length := by cases L with | nil => exact absurd rfl h0 | cons _ _ => simp
  by_cases h1 : L = [mk [42]]
  · have e : joinB L = mk [42] := by unfold joinB; rw [if_neg h0, if_pos h1]
    rw [e]
    obtain ⟨b, off, rfl, hb, hcs⟩ := hr hpos
    have hcell := hcs 0 hpos
    rw [Nat.add_zero, show gt L 0 = ⟨#[42]⟩ by rw [h1]; rfl] at hcell
    rw [h1]
    show Calls Tryd.prog 41 #[.slice (some ⟨b, off, none⟩) 1 c] w _
    clear hcs hr
    go_enter Tryd.func41, Tryd.ntmps41
    go_wp2_with fail
    go_ret
    exact ⟨rfl, Below.refl _ _⟩
  have e : joinB L = if good L then mk (join (L.map (·.data.toList)) [44]) else mk [] := by unfold joinB; rw [if_neg h0, if_neg h1]
  have U := unlike_ok a c L w hr hs hc hn
  have J := sjoin_ok a c L w hr hc
  obtain ⟨b, off, rfl, hb, hcs⟩ := hr hpos
  have hcell := hcs 0 hpos
  rw [Nat.add_zero] at hcell
  clear hcs hr hs
  have HE : Hd (joinB L = if good L then mk (join (L.map (·.data.toList)) [44]) else mk []) := ⟨e⟩
  have H1 : Hd (L.length = 1 → gt L 0 ≠ mk [42]) := ⟨fun hl e2 => h1 (by
    cases L with
    | nil => exact absurd rfl h0
    | cons x r =>
      have : r = [] := by cases r with | nil => rfl | cons _ _ => simp at hl
      subst this
      rw [show gt [x] 0 = x from rfl] at e2
      rw [e2])⟩
  have HJ : Hd (Good L → Calls Tryd.prog 39 #[.slice (some ⟨b, off, none⟩) L.length c, .string ⟨#[44]⟩] w fun e w' => e = .returned (.string (mk (join (L.map (·.data.toList)) [44]))) ∧ Below w.heap.size w w') := ⟨fun g => J g h0⟩
  clear e J h1
  generalize hx : joinB L = R at *
  clear hx
  generalize mk (join (L.map (·.data.toList)) [44]) = S at *
  have HG : Hd (good L = true → Good L) := ⟨good_iff.1⟩
  have hnil : ¬ L.length = 0 := by omega
  clear h0
  cases hg : good L with
  | false =>
    rw [hg] at U
    have hR : R = mk [] := by rw [HE.out, hg]; rfl
    subst hR
    by_cases hl : L.length = 1
    · have ne : ((gt L 0).toList == [42]) = false := by have := str_ne (H1.out hl); rw [ByteArray.toList_eq (mk [42]), mk_list] at this; exact this
      clear HE H1 HJ HG hg
      generalize gt L 0 = y at *
      generalize L.length = m at *
      subst hl
      go_enter Tryd.func41, Tryd.ntmps41
      go_wp2_with (go_at_call 58; refine U.mono ?_; rintro e w' ⟨rfl, hw⟩; obtain rfl := hw.symm)
      go_ret
      exact ⟨rfl, Below.refl _ _⟩
    · clear HE H1 HJ HG hg
      generalize gt L 0 = y at *
      generalize L.length = m at *
      go_enter Tryd.func41, Tryd.ntmps41
      go_wp2_with (go_at_call 58; refine U.mono ?_; rintro e w' ⟨rfl, hw⟩; obtain rfl := hw.symm)
      go_ret
      exact ⟨rfl, Below.refl _ _⟩
  | true =>
    rw [hg] at U
    have hR : R = S := by rw [HE.out, hg]; rfl
    subst hR
    have J := HJ.out (HG.out hg)
    by_cases hl : L.length = 1
    · have ne : ((gt L 0).toList == [42]) = false := by have := str_ne (H1.out hl); rw [ByteArray.toList_eq (mk [42]), mk_list] at this; exact this
      clear HE H1 HJ HG hg
      generalize gt L 0 = y at *
      generalize L.length = m at *
      subst hl
      go_enter Tryd.func41, Tryd.ntmps41
      go_wp2_with (first
        | (go_at_call 58; refine U.mono ?_; rintro e w' ⟨rfl, hw⟩; obtain rfl := hw.symm)
        | (go_at_call 39; refine J.mono ?_; rintro e w' ⟨rfl, hb2⟩))
      go_ret
      exact ⟨rfl, hb2⟩
    · clear HE H1 HJ HG hg
      generalize gt L 0 = y at *
      generalize L.length = m at *
      go_enter Tryd.func41, Tryd.ntmps41
      go_wp2_with (first
        | (go_at_call 58; refine U.mono ?_; rintro e w' ⟨rfl, hw⟩; obtain rfl := hw.symm)
        | (go_at_call 39; refine J.mono ?_; rintro e w' ⟨rfl, hb2⟩))
      go_ret
      exact ⟨rfl, hb2⟩

end Go.Proofs.YtooaojegdhamjaaDoor
