/-
  What strings.Join, strconv.Itoa, and over them 'Join', 'Digits' of words and 'line', 'borrowWord' of print answer.
  'words' of the reference: a list in memory of its own.
-/
import Derived.Test.YtijjpblmnlednaaGreatDoorE11
import Derived.Test.YtijjpblmnlednaaGreatDoorE4
import Derived.Lib.SmallJoins
import Derived.Test.YtijjpblmnlednaaGreatDoorE9
namespace Go.Proofs.YtijjpblmnlednaaGreatDoor
open Go.RowKit Go.Lib Go.Shelf
theorem tail_len (c : UInt8) : ∀ r : List (List UInt8), (∀ y ∈ r, y.length ≤ 64) → (joinTail [c] r).length ≤ 65 * r.length
  | [], _ => Nat.le_refl _
  | y :: r, h => by
    have := tail_len c r (fun z hz => h z (List.mem_cons_of_mem _ hz))
    have hy := h y (List.mem_cons_self ..)
    rw [tail_cons, List.length_cons, List.length_append, List.length_cons]
    omega
theorem join_len {L : List ByteArray} (h : Good L) : (join (L.map (·.data.toList)) [44]).length ≤ 140737488355328 := by
  have hw := good_words h
  have h8 := h.1
  cases L with
  | nil => exact Nat.zero_le _
  | cons x r =>
    rw [List.map_cons, join_cons, List.length_append]
    have h1 := word_short (hw x (List.mem_cons_self ..))
    rw [← size_list] at h1
    have h2 := tail_len 44 (r.map (·.data.toList)) (fun y hy => by
      obtain ⟨z, hz, rfl⟩ := List.mem_map.1 hy
      have := word_short (hw z (List.mem_cons_of_mem _ hz))
      rwa [← size_list] at this)
    rw [List.length_map] at h2
    rw [List.length_cons] at h8
    omega


theorem xJoin : Builder.Extra Tryz.prog Tryz.laysJoin_ren := { sizeBuilder := by kernel_rfl, liesBuilder := by kernel_rfl, t5 := Tryz.underlying5, a5 := Tryz.isAgg5, z5 := Tryz.sizeOf5, v5 := Tryz.zeroValue5, infoByte := by kernel_rfl, cellsByte := by kernel_rfl, sizeByte := by kernel_rfl, neB5 := by decide }


theorem sjoin_any (sp : List UInt8) (a : Option Addr) (c : Nat) (L : List ByteArray) (w : World) (hr : RowL w a L) (hc : L.length ≤ c) (hn : L.length ≤ 140737488355328) (hne : L ≠ []) (hlen : (join (L.map (·.data.toList)) sp).length ≤ 140737488355328) :
    Calls Tryz.prog 45 #[.slice a L.length c, .string (mk sp)] w fun e w' => e = .returned (.string (mk (join (L.map (·.data.toList)) sp))) ∧ Below w.heap.size w w' := by
  have hpos : 0 < L.length := by cases L with | nil => exact absurd rfl hne | cons _ _ => simp
  obtain ⟨b, off, rfl, hb, hcs⟩ := hr hpos
  exact Any.strings_Join Tryz.laysJoin xJoin b off c L (mk sp) w (fun j x hj => by
    have hk : j < L.length := (List.getElem?_eq_some_iff.1 hj).1
    rw [hcs j hk, gt_eq hk, (List.getElem?_eq_some_iff.1 hj).2]) hb hn hc hlen
theorem sjoin_none (sp : List UInt8) (a : Option Addr) (c : Nat) (w : World) :
    Calls Tryz.prog 45 #[.slice a 0 c, .string (mk sp)] w fun e w' => e = .returned (.string (mk [])) ∧ Below w.heap.size w w' :=
  Calls.mono (Any.strings_Join_none Tryz.laysJoin xJoin a c (mk sp) w) fun e w' h => ⟨h.1, by rw [h.2]; exact Below.refl _ _⟩
theorem sjoin_ok (a : Option Addr) (c : Nat) (L : List ByteArray) (w : World) (hr : RowL w a L) (hc : L.length ≤ c) (hg : Good L) (hne : L ≠ []) :
    Calls Tryz.prog 45 #[.slice a L.length c, .string ⟨#[44]⟩] w fun e w' => e = .returned (.string (mk (join (L.map (·.data.toList)) [44]))) ∧ Below w.heap.size w w' :=
  sjoin_any [44] a c L w hr hc (by have := hg.1; omega) hne (join_len hg)
theorem join_ok (a : Option Addr) (c : Nat) (L : List ByteArray) (w : World) (hr : RowL w a L) (hs : Short L) (hc : L.length ≤ c) (hn : L.length ≤ 9223372036854775807) :
    Calls Tryz.prog 123 #[.slice a L.length c] w fun e w' => e = .returned (.string (joinB L)) ∧ Below w.heap.size w w' := by
  by_cases h0 : L = []
  · have e : joinB L = mk [45] := by unfold joinB; rw [if_pos h0]
    rw [e, h0]
    show Calls Tryz.prog 123 #[.slice a 0 c] w _
    go_enter Tryz.func123, Tryz.ntmps123
    go_wp2_with fail
    go_ret
    exact ⟨rfl, Below.refl _ _⟩
  have hpos : 0 < L.length := by cases L with | nil => exact absurd rfl h0 | cons _ _ => simp
  by_cases h1 : L = [mk [42]]
  · have e : joinB L = mk [42] := by unfold joinB; rw [if_neg h0, if_pos h1]
    rw [e]
    obtain ⟨b, off, rfl, hb, hcs⟩ := hr hpos
    have hcell := hcs 0 hpos
    rw [Nat.add_zero, show gt L 0 = ⟨#[42]⟩ by rw [h1]; rfl] at hcell
    rw [h1]
    show Calls Tryz.prog 123 #[.slice (some ⟨b, off, none⟩) 1 c] w _
    clear hcs hr
    go_enter Tryz.func123, Tryz.ntmps123
    go_wp2_with fail
    go_ret
    exact ⟨rfl, Below.refl _ _⟩
  have e : joinB L = if good L then mk (join (L.map (·.data.toList)) [44]) else mk [] := by unfold joinB; rw [if_neg h0, if_neg h1]
  have U := unlike_ok a c L w hr hs hc hn
  have J := sjoin_ok a c L w hr hc
  obtain ⟨b, off, rfl, hb, hcs⟩ := hr hpos
  have hcell := hcs 0 hpos
  rw [Nat.add_zero] at hcell
  clear hcs hr hs
  have HE : Hd (joinB L = if good L then mk (join (L.map (·.data.toList)) [44]) else mk []) := ⟨e⟩
  have H1 : Hd (L.length = 1 → gt L 0 ≠ mk [42]) := ⟨fun hl e2 => h1 (by
    cases L with
    | nil => exact absurd rfl h0
    | cons x r =>
      have : r = [] := by cases r with | nil => rfl | cons _ _ => simp at hl
      subst this
      rw [show gt [x] 0 = x from rfl] at e2
      rw [e2])⟩
  have HJ : Hd (Good L → Calls Tryz.prog 45 #[.slice (some ⟨b, off, none⟩) L.length c, .string ⟨#[44]⟩] w fun e w' => e = .returned (.string (mk (join (L.map (·.data.toList)) [44]))) ∧ Below w.heap.size w w') := ⟨fun g => J g h0⟩
  clear e J h1
  generalize hx : joinB L = R at *
  clear hx
  generalize mk (join (L.map (·.data.toList)) [44]) = S at *
  have HG : Hd (good L = true → Good L) := ⟨good_iff.1⟩
  have hnil : ¬ L.length = 0 := by omega
  clear h0
  cases hg : good L with
  | false =>
    rw [hg] at U
    have hR : R = mk [] := by rw [HE.out, hg]; rfl
    subst hR
    by_cases hl : L.length = 1
    · have ne : ((gt L 0).toList == [42]) = false := by have := str_ne (H1.out hl); rw [ByteArray.toList_eq (mk [42]), mk_list] at this; exact this
      clear HE H1 HJ HG hg
      generalize gt L 0 = y at *
      generalize L.length = m at *
      subst hl
      go_enter Tryz.func123, Tryz.ntmps123
      go_wp2_with (go_at_call 138; refine U.mono ?_; rintro e w' ⟨rfl, hw⟩; obtain rfl := hw.symm)
      go_ret
      exact ⟨rfl, Below.refl _ _⟩
    · clear HE H1 HJ HG hg
      generalize gt L 0 = y at *
      generalize L.length = m at *
      go_enter Tryz.func123, Tryz.ntmps123
      go_wp2_with (go_at_call 138; refine U.mono ?_; rintro e w' ⟨rfl, hw⟩; obtain rfl := hw.symm)
      go_ret
      exact ⟨rfl, Below.refl _ _⟩
  | true =>
    rw [hg] at U
    have hR : R = S := by rw [HE.out, hg]; rfl
    subst hR
    have J := HJ.out (HG.out hg)
    by_cases hl : L.length = 1
    · have ne : ((gt L 0).toList == [42]) = false := by have := str_ne (H1.out hl); rw [ByteArray.toList_eq (mk [42]), mk_list] at this; exact this
      clear HE H1 HJ HG hg
      generalize gt L 0 = y at *
      generalize L.length = m at *
      subst hl
      go_enter Tryz.func123, Tryz.ntmps123
      go_wp2_with (first
        | (go_at_call 138; refine U.mono ?_; rintro e w' ⟨rfl, hw⟩; obtain rfl := hw.symm)
        | (go_at_call 45; refine J.mono ?_; rintro e w' ⟨rfl, hb2⟩))
      go_ret
      exact ⟨rfl, hb2⟩
    · clear HE H1 HJ HG hg
      generalize gt L 0 = y at *
      generalize L.length = m at *
      go_enter Tryz.func123, Tryz.ntmps123
      go_wp2_with (first
        | (go_at_call 138; refine U.mono ?_; rintro e w' ⟨rfl, hw⟩; obtain rfl := hw.symm)
        | (go_at_call 45; refine J.mono ?_; rintro e w' ⟨rfl, hb2⟩))
      go_ret
      exact ⟨rfl, hb2⟩
end Go.Proofs.YtijjpblmnlednaaGreatDoor

namespace Go.Proofs.YtijjpblmnlednaaGreatDoor
open Go.RowKit Go.Lib
theorem own_ls {B : Nat} {w : World} {v : Value} {L : List ByteArray} (h : OwnT B w v L) (h1 : L.length ≤ 9223372036854775807) (h2 : ∀ x ∈ L, x.size ≤ 9223372036854775807) : LsR w v L := by
  obtain ⟨a, c, e, hr⟩ := h.shape
  refine ⟨a, c, e, hr, ?_, h1, h2⟩
  rcases h.2 with ⟨e2, h0⟩ | ⟨g, cap, cur, e2, hb, hg, hc, _⟩
  · omega
  · rw [e] at e2
    injection e2 with _ _ e3
    omega
/-- A list laid anew. -/
structure Wd (w : World) (L : List ByteArray) (e : Ending) (w' : World) : Prop where
  ex : ∃ v', e = .returned v' ∧ OwnT w.heap.size w' v' L
  ls : ∀ v', e = .returned v' → LsR w' v' L
  bel : Below w.heap.size w w'
end Go.Proofs.YtijjpblmnlednaaGreatDoor
