/-
  What 'WordsKinds' of the statements answers: true, for every text and every list of texts. Condition: the list lies in memory.
-/
import Derived.Test.YtaedgkaldafbbaaDoorRefG
import Derived.Deep.AppendLies
namespace Go.Proofs.YtaedgkaldafbbaaDoor
open Go.RowKit Go.Lib

theorem cells_at {w : World} {x : Addr} {L : List ByteArray} (h : RowL w (some x) L) : ∀ j u, (L.map Value.string)[j]? = some u → w.cell? (x.add j) = some u := by
  intro j u hj
  have hl : j < L.length := by have := (List.getElem?_eq_some_iff.1 hj).1; simpa using this
  obtain ⟨b, off, e, hb, hc⟩ := h (by omega)
  obtain rfl := Option.some.inj e
  rw [Go.WideShapes.add_plain, hc j hl]
  rw [List.getElem?_map, List.getElem?_eq_getElem hl] at hj
  rw [gt_eq hl]
  exact hj
theorem cells_one (L : List ByteArray) : ∀ u ∈ L.map Value.string, u.oneCell' = true := by
  intro u hu
  obtain ⟨x, _, rfl⟩ := List.mem_map.1 hu
  rfl
theorem one_newS (w : World) (x : ByteArray) (n : Nat) (hs : n = w.heap.size) : ∀ j u, ([.string x] : List Value)[j]? = some u → (w.alloc (.cells #[.string x] 9)).cell? ((⟨n, 0, none⟩ : Addr).add j) = some u := by
  subst hs; exact one_newT w x
theorem own_cap {w : World} {B g n c : Nat} {xs : List Value} (h : w.ownsRow B 9 1 (.slice (some ⟨g, 0, none⟩) n c) n xs) : n ≤ c := by
  rcases h.2 with ⟨h', _⟩ | ⟨g', cap', cur, h', _, _, hnc, _⟩
  · simp at h'
  · simp at h'; omega
/-- The texts, and x behind them. -/
theorem mine {w : World} {B g c : Nat} {L : List ByteArray} (h : w.ownsRow B 9 1 (.slice (some ⟨g, 0, none⟩) (L.length + 1) c) (L.length + 1) (L.map Value.string ++ [.string ⟨#[120]⟩])) :
    RowL w (some ⟨g, 0, none⟩) L ∧ w.cell? ⟨g, L.length, none⟩ = some (.string ⟨#[120]⟩) ∧ L.length + 1 ≤ c ∧ g < w.heap.size := by
  have hl : (L.map Value.string).length = L.length := by simp
  refine ⟨fun hn => ⟨g, 0, rfl, (h.lt g rfl).2, fun k hk => ?_⟩, ?_, ?_, (h.lt g rfl).2⟩
  · rw [Nat.zero_add, h.cellAt k (by omega), List.getElem?_append_left (by omega), List.getElem?_map, List.getElem?_eq_getElem hk, gt_eq hk]
    rfl
  · rw [h.cellAt L.length (by omega), List.getElem?_append_right (by omega), hl]; simp
  · rcases h.2 with ⟨h', _⟩ | ⟨g', cap', cur, h', _, _, hnc, _⟩
    · simp at h'
    · simp at h'; omega

theorem kinds_far (s : ByteArray) (a : Option Addr) (m c : Nat) (w : World) (hs : s.size ≤ 9223372036854775807) (hm : m ≤ 9223372036854775807) (h : 16384 < s.size ∨ (s.size ≤ 16384 ∧ 64 < m)) :
    Calls Tryd.prog 5 #[.string s, .slice a m c] w fun e w' => e = .returned (.bool true) ∧ Below w.heap.size w w' := by
  rcases h with h | ⟨h0, h⟩
  · go_enter Tryd.func5, Tryd.ntmps5
    go_wp2_with (go_at_call 9; refine (awake_any _).mono ?_; rintro e w1 ⟨rfl, hb1⟩)
    go_ret
    exact ⟨rfl, hb1⟩
  · go_enter Tryd.func5, Tryd.ntmps5
    go_wp2_with (go_at_call 9; refine (awake_any _).mono ?_; rintro e w1 ⟨rfl, hb1⟩)
    go_ret
    exact ⟨rfl, hb1⟩

set_option maxRecDepth 20000 in
set_option maxHeartbeats 1000000 in
theorem kinds_near (s : ByteArray) (a : Option Addr) (c : Nat) (L : List ByteArray) (w : World) (hr : RowL w a L) (hS : Short L) (hc : a = none → L.length = 0 ∧ c = 0) (h1 : s.size ≤ 16384) (h2 : L.length ≤ 64) :
    Calls Tryd.prog 5 #[.string s, .slice a L.length c] w fun e w' => e = .returned (.bool true) ∧ Below w.heap.size w w' := by
  obtain ⟨i0, hi, hz0, hz1, hz2⟩ := info_parts info9
  obtain ⟨m, hL⟩ : ∃ m, L.length = m := ⟨_, rfl⟩
  have HM : Hd (L.length = m) := ⟨hL⟩
  have HS : Hd (Short L) := ⟨hS⟩
  have C23 := fun w => list_ok s w (by omega)
  have C24 := fun w => rlist_ok s w h1
  have lsz := (short_list s (by omega)).2
  have C26 := fun w => name_ok s (by omega) w
  have C27 := fun w => rname_ok s (by omega) w
  have C28 := fun w => word_ok s (by omega) w
  have C29 := fun w => rword_ok s (by omega) w
  have C25 := fun (a : Option Addr) (c : Nat) w hr hc => join_ok a c L w hr hS hc (by omega)
  have C30 := fun (a : Option Addr) (c : Nat) w hr => rjoin_ok a c L w hr hS (by omega)
  rw [hL] at hc h2 C25 C30 ⊢
  clear hS hL
  generalize isName s = x1 at *
  generalize isWord s = x2 at *
  generalize joinB L = x3 at *
  generalize listOk s = x4 at *
  generalize listOf s = M at *
  go_enter Tryd.func5, Tryd.ntmps5
  go_wp2_with (go_at_call 9; refine (awake_any _).mono ?_; rintro e w1 ⟨rfl, hb1⟩)
  have hr1 := hr.carry hb1
  have HRW : Hd (RowL w a L) := ⟨hr⟩
  clear hr
  go_loop [5, 6] (fun x i => ∃ k q : Nat, k ≤ m ∧ i = .int .i64 k ∧ x = .int .i64 q ∧ q ≤ 16384 * k) (fun _ i => m - (intOf i).toNat)
  case atStart => exact ⟨0, 0, Nat.zero_le _, rfl, rfl, Nat.le_refl _⟩
  case round =>
    obtain ⟨k, q, hk, rfl, rfl, hq⟩ := hrel
    by_cases hlt : k < m
    · have hlt' : k < L.length := by rw [HM.out]; exact hlt
      obtain ⟨b, off, rfl, hb, hcs⟩ := hr1 (by omega)
      have hcell := hcs k hlt'
      have hshort := HS.out k hlt'
      clear hcs HS HRW C23 C24 C25 C26 C27 C28 C29 C30
      obtain ⟨x, hx⟩ : ∃ x, gt L k = x := ⟨_, rfl⟩
      rw [hx] at hcell hshort
      clear hx
      by_cases hbig : 16384 < x.size
      · go_wp2_with fail
        go_ret
        exact ⟨rfl, hb1⟩
      · go_wp2_with fail
        go_round
        case rel => exact ⟨k + 1, q + x.size, by omega, by go_num, by go_num, by omega⟩
        case measure => simp [intOf]; omega
    · obtain rfl : k = m := by omega
      clear HS
      go_wp2_with fail
      go_at_call 23
      refine (C23 _).mono ?_
      rintro e w2 ⟨a2, c2, rfl, r2, _, hb2⟩
      have b2 : Below w.heap.size w w2 := hb1.trans (hb2.mono hb1.size)
      have B2 : Hd (Below w.heap.size w w2) := ⟨b2⟩
      clear hb1 hb2 b2 hr1 C23
      go_wp2_with fail
      go_at_call 24
      refine (C24 _).mono ?_
      rintro e w3 ⟨a3, c3, rfl, r3, hb3⟩
      have B3 : Hd (Below w.heap.size w w3) := ⟨B2.out.trans (hb3.mono B2.out.size)⟩
      have R2 : Hd (RowL w3 a2 M) := ⟨r2.carry hb3⟩
      have R3 : Hd (RowL w3 a3 M) := ⟨r3⟩
      have RL : Hd (RowL w3 a L) := ⟨HRW.out.carry B3.out⟩
      clear r2 r3 hb3 C24 HRW
      have hown0 : (w3.alloc (.cells #[] 9)).ownsRow w3.heap.size 9 1 (.slice (some ⟨w3.heap.size, 0, none⟩) 0 0) 0 [] := World.ownsRow_lit (e := 9) w3 #[] 0 (Nat.le_refl _) (by unfold maxLen; omega) rfl
      have hrA : Hd (RowL (w3.alloc (.cells #[] 9)) a L) := ⟨RL.out.carry ((Below.refl _ _).alloc (Nat.le_refl _) _)⟩
      have hbA : Below w3.heap.size w3 (w3.alloc (.cells #[] 9)) := (Below.refl _ _).alloc (Nat.le_refl _) _
      cases a with
      | none =>
        obtain ⟨hk0, rfl⟩ := hc rfl
        subst hk0
        have hLe : L = [] := by have := HM.out; cases L with | nil => rfl | cons _ _ => simp at this
        go_wp2_with (first
          | (at_builtin; refine wpList_append_own_none rfl (.tmp 52) (.tmp 53) 24 rfl w3.heap.size 9 i0 1 Tryd.underlying24 hi _ _ _ rfl hown0 rfl ?_)
          | (at_builtin; refine wpList_append_lies _ rfl (.tmp 54) (.tmp 55) 24 rfl w3.heap.size 9 i0 (.string ByteArray.empty) 1 16 Tryd.underlying24 hi hz0 hz1 hz2 rfl (by decide) _ _ _ rfl (hown0.alloc _) ⟨w3.heap.size + 1, 0, none⟩ 1 1 [.string ⟨#[120]⟩] rfl rfl (one_newS (w3.alloc (.cells #[] 9)) _ _ (by simp)) (one_cellT _) (by decide) (by unfold maxLen; omega) (by omega) (by simp; omega) _ rfl ?_; intro g c5 w5 hown5 hgrow5 hat5 hlt5))
        rw [List.nil_append] at hown5
        have Q3 : Below w3.heap.size w3 w5 := (hbA.alloc hbA.size _).grown hgrow5 (by simp; omega) (fun q e => (hown0.lt q e).1)
        have QB : Below w.heap.size w w5 := B3.out.trans (Q3.mono B3.out.size)
        have hown5 : w5.ownsRow w3.heap.size 9 1 (.slice (some ⟨g, 0, none⟩) (0 + 1) c5) (0 + 1) (L.map Value.string ++ [.string ⟨#[120]⟩]) := by rw [hLe]; exact hown5
        clear hLe hat5 hlt5 hown0 hbA hrA
        have B5 : Hd (Below w.heap.size w w5) := ⟨QB⟩
        obtain ⟨m1, m2, m3, m4⟩ := mine (L := L) (by rw [HM.out]; exact hown5)
        rw [HM.out] at m2 m3
        have b35 : Hd (Below w3.heap.size w3 w5) := ⟨Q3⟩
        have N1 : Hd (RowL w5 (some ⟨g, 0, none⟩) L) := ⟨m1⟩
        clear hown5 hgrow5 m1 QB Q3
        have hkc : 0 ≤ c5 := by omega
        go_wp2_with fail
        go_at_call 25
        refine (C25 (some ⟨g, 0, none⟩) c5 w5 N1.out hkc).mono ?_
        rintro e w6 ⟨rfl, hb6⟩
        have b36 : Hd (Below w3.heap.size w3 w6) := ⟨b35.out.trans (hb6.mono b35.out.size)⟩
        have b56 : Hd (Below w5.heap.size w5 w6) := ⟨hb6⟩
        have R6a : RowL w6 a2 M := R2.out.carry b36.out
        have R6b : RowL w6 a3 M := R3.out.carry b36.out
        have S1 := same_yes a2 a3 c2 c3 M M w6 R6a R6b (by omega) rfl
        have S1' := S1
        clear hb6 S1 C25 R6a R6b
        generalize M.length = mm at *
        go_wp2_with (first
          | (go_at_call 26; refine (C26 _).mono ?_; rintro e w' ⟨rfl, hw⟩; obtain rfl := hw.symm)
          | (go_at_call 27; refine (C27 _).mono ?_; rintro e w' ⟨rfl, hw⟩; obtain rfl := hw.symm)
          | (go_at_call 28; refine (C28 _).mono ?_; rintro e w' ⟨rfl, hw⟩; obtain rfl := hw.symm)
          | (go_at_call 29; refine (C29 _).mono ?_; rintro e w' ⟨rfl, hw⟩; obtain rfl := hw.symm))
        go_at_call 10
        refine S1'.mono ?_
        rintro e w7 ⟨rfl, hb7⟩
        have b37 : Hd (Below w3.heap.size w3 w7) := ⟨b36.out.trans (hb7.mono b36.out.size)⟩
        have b57 : Hd (Below w5.heap.size w5 w7) := ⟨b56.out.trans (hb7.mono b56.out.size)⟩
        clear hb7 S1' C26 C27 C28 C29
        go_wp2_with fail
        go_at_call 30
        refine (C30 none 0 w7 (RL.out.carry b37.out)).mono ?_
        rintro e w8 ⟨rfl, hb8⟩
        have b38 : Hd (Below w3.heap.size w3 w8) := ⟨b37.out.trans (hb8.mono b37.out.size)⟩
        have b58 : Hd (Below w5.heap.size w5 w8) := ⟨b57.out.trans (hb8.mono b57.out.size)⟩
        have S2 := same_yes (some ⟨g, 0, none⟩) none c5 0 L L w8 (N1.out.carry b58.out) (RL.out.carry b38.out) (by rw [HM.out]; omega) rfl
        rw [HM.out] at S2
        clear hb8 C30
        go_wp2_with fail
        go_at_call 10
        refine S2.mono ?_
        rintro e w9 ⟨rfl, hb9⟩
        have b59 : Hd (Below w5.heap.size w5 w9) := ⟨b58.out.trans (hb9.mono b58.out.size)⟩
        have hcell := (b59.out.cell (p := ⟨g, 0, none⟩) m4).trans m2
        clear hb9 S2 m2 N1 R2 R3 RL
        go_wp2_with fail
        go_ret
        exact ⟨rfl, B5.out.trans (b59.out.mono B5.out.size)⟩
      | some x =>
        go_wp2_with (first
          | (at_builtin; refine wpList_append_own _ rfl (.tmp 52) (.tmp 53) 24 rfl w3.heap.size 9 i0 (.string ByteArray.empty) 1 16 Tryd.underlying24 hi hz0 hz1 hz2 rfl (by decide) _ _ _ rfl hown0 x k c (L.map Value.string) rfl (by rw [List.length_map, HM.out]; omega) (cells_at hrA.out) (cells_one L) (by unfold maxLen; omega) (by omega) (by simp) ?_; intro v4 w4 hown4 hgrow4 _; have hs4 : w3.heap.size ≤ w4.heap.size := (hbA.grown hgrow4 (by simp) (fun q e => (hown0.lt q e).1)).size)
          | (at_builtin; refine wpList_append_lies _ rfl (.tmp 54) (.tmp 55) 24 rfl w3.heap.size 9 i0 (.string ByteArray.empty) 1 16 Tryd.underlying24 hi hz0 hz1 hz2 rfl (by decide) _ _ _ rfl (hown4.alloc _) ⟨w4.heap.size, 0, none⟩ 1 1 [.string ⟨#[120]⟩] rfl rfl (one_newT _ _) (one_cellT _) (by decide) (by unfold maxLen; omega) (by omega) (by simp; omega) _ rfl ?_; intro g c5 w5 hown5 hgrow5 hat5 hlt5; have hcap5 := own_cap hown5; have hkc0 : k ≤ c5 := by omega))
        have Q4 : Below w3.heap.size w3 w4 := hbA.grown hgrow4 (by simp) (fun q e => (hown0.lt q e).1)
        have Q3 : Below w3.heap.size w3 w5 := (Q4.alloc Q4.size _).grown hgrow5 (by simp; omega) (fun q e => (hown4.lt q e).1)
        have QB : Below w.heap.size w w5 := B3.out.trans (Q3.mono B3.out.size)
        rw [Nat.zero_add, List.nil_append] at hown5
        clear hat5 hlt5 hown0 hown4 hgrow4 hbA hrA Q4 hcap5 hkc0
        have B5 : Hd (Below w.heap.size w w5) := ⟨QB⟩
        obtain ⟨m1, m2, m3, m4⟩ := mine (L := L) (by rw [HM.out]; exact hown5)
        rw [HM.out] at m2 m3
        have b35 : Hd (Below w3.heap.size w3 w5) := ⟨Q3⟩
        have N1 : Hd (RowL w5 (some ⟨g, 0, none⟩) L) := ⟨m1⟩
        clear hown5 hgrow5 m1 QB Q3
        have hkc : k ≤ c5 := by omega
        go_wp2_with fail
        go_at_call 25
        refine (C25 (some ⟨g, 0, none⟩) c5 w5 N1.out hkc).mono ?_
        rintro e w6 ⟨rfl, hb6⟩
        have b36 : Hd (Below w3.heap.size w3 w6) := ⟨b35.out.trans (hb6.mono b35.out.size)⟩
        have b56 : Hd (Below w5.heap.size w5 w6) := ⟨hb6⟩
        have R6a : RowL w6 a2 M := R2.out.carry b36.out
        have R6b : RowL w6 a3 M := R3.out.carry b36.out
        have S1 := same_yes a2 a3 c2 c3 M M w6 R6a R6b (by omega) rfl
        have S1' := S1
        clear hb6 S1 C25 R6a R6b
        generalize M.length = mm at *
        go_wp2_with (first
          | (go_at_call 26; refine (C26 _).mono ?_; rintro e w' ⟨rfl, hw⟩; obtain rfl := hw.symm)
          | (go_at_call 27; refine (C27 _).mono ?_; rintro e w' ⟨rfl, hw⟩; obtain rfl := hw.symm)
          | (go_at_call 28; refine (C28 _).mono ?_; rintro e w' ⟨rfl, hw⟩; obtain rfl := hw.symm)
          | (go_at_call 29; refine (C29 _).mono ?_; rintro e w' ⟨rfl, hw⟩; obtain rfl := hw.symm))
        go_at_call 10
        refine S1'.mono ?_
        rintro e w7 ⟨rfl, hb7⟩
        have b37 : Hd (Below w3.heap.size w3 w7) := ⟨b36.out.trans (hb7.mono b36.out.size)⟩
        have b57 : Hd (Below w5.heap.size w5 w7) := ⟨b56.out.trans (hb7.mono b56.out.size)⟩
        clear hb7 S1' C26 C27 C28 C29
        go_wp2_with fail
        go_at_call 30
        refine (C30 (some x) c w7 (RL.out.carry b37.out)).mono ?_
        rintro e w8 ⟨rfl, hb8⟩
        have b38 : Hd (Below w3.heap.size w3 w8) := ⟨b37.out.trans (hb8.mono b37.out.size)⟩
        have b58 : Hd (Below w5.heap.size w5 w8) := ⟨b57.out.trans (hb8.mono b57.out.size)⟩
        have S2 := same_yes (some ⟨g, 0, none⟩) (some x) c5 c L L w8 (N1.out.carry b58.out) (RL.out.carry b38.out) (by rw [HM.out]; omega) rfl
        rw [HM.out] at S2
        clear hb8 C30
        go_wp2_with fail
        go_at_call 10
        refine S2.mono ?_
        rintro e w9 ⟨rfl, hb9⟩
        have b59 : Hd (Below w5.heap.size w5 w9) := ⟨b58.out.trans (hb9.mono b58.out.size)⟩
        have hcell := (b59.out.cell (p := ⟨g, k, none⟩) m4).trans m2
        clear hb9 S2 m2 N1 R2 R3 RL
        go_wp2_with fail
        go_ret
        exact ⟨rfl, B5.out.trans (b59.out.mono B5.out.size)⟩

theorem kinds_all (s : ByteArray) (a : Option Addr) (c : Nat) (L : List ByteArray) (w : World) (hr : RowL w a L) (hS : Short L) (hn : L.length ≤ 9223372036854775807) (hc : a = none → L.length = 0 ∧ c = 0) (hs : s.size ≤ 9223372036854775807) :
    Calls Tryd.prog 5 #[.string s, .slice a L.length c] w fun e w' => e = .returned (.bool true) ∧ Below w.heap.size w w' := by
  by_cases h1 : 16384 < s.size
  · exact kinds_far s a _ c w hs hn (.inl h1)
  by_cases h2 : 64 < L.length
  · exact kinds_far s a _ c w hs hn (.inr ⟨by omega, h2⟩)
  exact kinds_near s a c L w hr hS hc (by omega) (by omega)

end Go.Proofs.YtaedgkaldafbbaaDoor
