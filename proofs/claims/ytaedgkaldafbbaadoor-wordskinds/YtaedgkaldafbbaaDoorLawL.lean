/-
  What 'WordsLists' of the statements answers: true, for every list of texts and every text. Condition: the list lies in memory.
-/
import Derived.Test.YtaedgkaldafbbaaDoorWalkG
namespace Go.Proofs.YtaedgkaldafbbaaDoor
open Go.RowKit Go.Lib

theorem mk_size (l : List UInt8) : (mk l).size = l.length := by rw [← size_list, mk_list]
theorem joinB_size (L : List ByteArray) : (joinB L).size ≤ 1000 := by
  unfold joinB
  split
  · rw [mk_size]; decide
  split
  · rw [mk_size]; decide
  cases hg : good L with
  | false => rw [if_neg (by decide), mk_size]; decide
  | true =>
    rw [if_pos rfl, mk_size]
    have h := good_iff.1 hg
    have hw := good_words h
    have h8 := h.1
    cases L with
    | nil => exact Nat.zero_le _
    | cons x r =>
      rw [List.map_cons, join_cons, List.length_append]
      have h1 := word_short (hw x (List.mem_cons_self ..))
      rw [← size_list] at h1
      have h2 := tail_len 44 (r.map (·.data.toList)) (fun y hy => by
        obtain ⟨z, hz, rfl⟩ := List.mem_map.1 hy
        have := word_short (hw z (List.mem_cons_of_mem _ hz))
        rwa [← size_list] at this)
      rw [List.length_map] at h2
      rw [List.length_cons] at h8
      omega
theorem short_cut (c : UInt8) (s : ByteArray) (hs : s.size ≤ 9223372036854775807) : Short (cutB c s) := fun k hk => by
  have := gt_mem hk
  obtain ⟨x, hx, e⟩ := List.mem_map.1 this
  rw [← e, mk_size]
  have := piece_le c _ x hx
  rw [size_list] at this
  omega
theorem short_list (s : ByteArray) (hs : s.size ≤ 9223372036854775807) : Short (listOf s) ∧ (listOf s).length ≤ 8 := by
  unfold listOf
  split
  · exact ⟨fun k hk => absurd hk (Nat.not_lt_zero _), Nat.zero_le _⟩
  split
  · refine ⟨fun k hk => ?_, by decide⟩
    obtain rfl : k = 0 := by simp at hk; omega
    decide
  cases hg : good (cutB 44 s) with
  | false => rw [if_neg (by decide)]; exact ⟨fun k hk => absurd hk (Nat.not_lt_zero _), Nat.zero_le _⟩
  | true => rw [if_pos rfl]; exact ⟨short_cut 44 s hs, (good_iff.1 hg).1⟩

theorem lists_all (a : Option Addr) (c : Nat) (L : List ByteArray) (s : ByteArray) (w : World) (hr : RowL w a L) (hS : Short L) (hc : L.length ≤ c) (hn : L.length ≤ 9223372036854775807) (hs : s.size ≤ 9223372036854775807) :
    Calls Tryd.prog 8 #[.slice a L.length c, .string s] w fun e w' => e = .returned (.bool true) ∧ Below w.heap.size w w' := by
  obtain ⟨m, hm⟩ : ∃ m, L.length = m := ⟨_, rfl⟩
  by_cases h1 : 16384 < s.size
  · rw [hm] at hn ⊢
    clear hr hS hm
    go_enter Tryd.func8, Tryd.ntmps8
    go_wp2_with (go_at_call 9; refine (awake_any _).mono ?_; rintro e w1 ⟨rfl, hb1⟩)
    go_ret
    exact ⟨rfl, hb1⟩
  by_cases h2 : 64 < m
  · rw [hm] at hn ⊢
    clear hr hS hm
    go_enter Tryd.func8, Tryd.ntmps8
    go_wp2_with (go_at_call 9; refine (awake_any _).mono ?_; rintro e w1 ⟨rfl, hb1⟩)
    go_ret
    exact ⟨rfl, hb1⟩
  have HM : Hd (L.length = m) := ⟨hm⟩
  have JK := fun w (hr : RowL w a L) => join_ok a c L w hr hS hc hn
  have jsz := joinB_size L
  have LJ := fun w => list_ok (joinB L) w (by omega)
  have HLJ : Hd (joinB L ≠ mk [] → listOk (joinB L) = true ∧ listOf (joinB L) = L) := ⟨list_join L⟩
  have LS := fun w => list_ok s w (by omega)
  obtain ⟨q1, q2⟩ := short_list s hs
  have HJS : Hd (listOk s = true → joinB (listOf s) = s) := ⟨join_list s⟩
  have JS := fun (a : Option Addr) (c : Nat) w hr hc => join_ok a c (listOf s) w hr q1 hc (by omega)
  rw [hm] at JK hn ⊢
  clear hS hm q1 q2 jsz
  go_enter Tryd.func8, Tryd.ntmps8
  go_wp2_with (go_at_call 9; refine (awake_any _).mono ?_; rintro e w1 ⟨rfl, hb1⟩)
  go_at_call 25
  refine (JK _ (hr.carry hb1)).mono ?_
  rintro e w2 ⟨rfl, hb2⟩
  have B2 : Hd (Below w.heap.size w w2) := ⟨hb1.trans (hb2.mono hb1.size)⟩
  clear hb1 hb2 JK
  by_cases he : joinB L = mk []
  · have te : (joinB L).toList.isEmpty = true := by rw [he]; rw [ByteArray.toList_eq, mk_list]; rfl
    clear LJ HLJ he
    generalize joinB L = x at *
    go_wp2_with fail
    go_at_call 23
    refine (LS _).mono ?_
    rintro e w3 ⟨a3, c3, rfl, r3, k3, hb3⟩
    have B3 : Hd (Below w.heap.size w w3) := ⟨B2.out.trans (hb3.mono B2.out.size)⟩
    clear hb3 hr
    cases hok : listOk s with
    | false =>
      clear HJS JS r3 LS
      go_wp2_with fail
      go_ret
      exact ⟨rfl, B3.out⟩
    | true =>
      have J := JS a3 c3 w3 r3 k3
      rw [HJS.out hok] at J
      clear HJS JS LS hok
      go_wp2_with (go_at_call 25; refine J.mono ?_; rintro e w4 ⟨rfl, hb4⟩)
      go_ret
      exact ⟨rfl, B3.out.trans (hb4.mono B3.out.size)⟩
  · have te : (joinB L).toList.isEmpty = false := by
      cases h : (joinB L).toList with
      | nil =>
        rw [ByteArray.toList_eq] at h
        exact absurd (list_inj (by rw [h, mk_list])) he
      | cons _ _ => rfl
    obtain ⟨o1, o2⟩ := HLJ.out he
    rw [o1, o2] at LJ
    clear HLJ he o1 o2
    generalize joinB L = x at *
    go_wp2_with fail
    go_at_call 23
    refine (LJ _).mono ?_
    rintro e w3 ⟨a3, c3, rfl, r3, k3, hb3⟩
    have B3 : Hd (Below w.heap.size w w3) := ⟨B2.out.trans (hb3.mono B2.out.size)⟩
    have S := same_yes a3 a c3 c L L w3 r3 (hr.carry B3.out) (by rw [HM.out]; exact hn) rfl
    rw [HM.out] at S
    rw [HM.out]
    clear hb3 hr LJ r3 k3
    go_wp2_with fail
    go_at_call 10
    refine S.mono ?_
    rintro e w4 ⟨rfl, hb4⟩
    have B4 : Hd (Below w.heap.size w w4) := ⟨B3.out.trans (hb4.mono B3.out.size)⟩
    clear hb4 S
    go_wp2_with fail
    go_at_call 23
    refine (LS _).mono ?_
    rintro e w5 ⟨a5, c5, rfl, r5, k5, hb5⟩
    have B5 : Hd (Below w.heap.size w w5) := ⟨B4.out.trans (hb5.mono B4.out.size)⟩
    clear hb5
    cases hok : listOk s with
    | false =>
      clear HJS JS r5 LS
      go_wp2_with fail
      go_ret
      exact ⟨rfl, B5.out⟩
    | true =>
      have J := JS a5 c5 w5 r5 k5
      rw [HJS.out hok] at J
      clear HJS JS LS hok
      go_wp2_with (go_at_call 25; refine J.mono ?_; rintro e w6 ⟨rfl, hb6⟩)
      go_ret
      exact ⟨rfl, B5.out.trans (hb6.mono B5.out.size)⟩

end Go.Proofs.YtaedgkaldafbbaaDoor
