/-
  The walk of the statement 'HeapApart'. Conditions: the list lies in memory.
-/
import Derived.Test.YtomohkoenohmbaaWalkN
namespace Go.Proofs.Ytomohkoenohmbaa
open Go.RowKit Go.Lib Go.Sort Go.Maps

theorem Own.store {w : World} {g n : Nat} {f : Nat → Int × Int} (h : Own w g n f) {i : Nat} (_hi : i < n) (x : Int × Int) : Own ((w.setCell ⟨g, i * 2, none⟩ (.int .u64 x.1)).setCell ⟨g, i * 2 + 1, none⟩ (.int .i64 x.2)) g n (upd f i x) := by
  refine ⟨by simpa using h.1, fun k hk => ⟨?_, by simpa using (h.2 k hk).2.1, by simpa using (h.2 k hk).2.2⟩⟩
  obtain ⟨⟨c0, c1⟩, _, _⟩ := h.2 k hk
  by_cases c : k = i
  · subst c
    rw [upd_same]
    constructor
    · rw [World.cell?_setCell_other]
      · exact World.cell?_setCell_same _ _ _ c0
      · simp
    · refine World.cell?_setCell_same (u := .int .i64 (f k).2) _ _ _ ?_
      rw [World.cell?_setCell_other]
      · exact c1
      · simp
  · rw [upd_other c]
    constructor
    · rw [World.cell?_setCell_other, World.cell?_setCell_other]
      · exact c0
      · first | (simp; done) | (simp; omega)
      · first | (simp; done) | (simp; omega)
    · rw [World.cell?_setCell_other, World.cell?_setCell_other]
      · exact c1
      · first | (simp; done) | (simp; omega)
      · first | (simp; done) | (simp; omega)

/-- The heap, and what was copied of its list. -/
structure AP (w0 w : World) (hb : Nat) (S : Nat → Prop) (M : Int × Int → Prop) (m gb : Nat) (L : List (Int × Int)) : Prop where
  heap : HeapIs w hb S M m
  copy : Own w gb m (fun i => L.getD i (0, 0))
  below : Below w0.heap.size w0 w
theorem AP.step {w0 w w' : World} {hb : Nat} {S : Nat → Prop} {M : Int × Int → Prop} {m gb : Nat} {L : List (Int × Int)} (h : AP w0 w hb S M m gb L) (b : Below w.heap.size w w') : AP w0 w' hb S M m gb L :=
  ⟨h.heap.below b, h.copy.kept (Kept.of_below b (fun _ => False)) id, h.below.trans (b.mono h.below.size)⟩
theorem AP.alloc {w0 w : World} {hb : Nat} {S : Nat → Prop} {M : Int × Int → Prop} {m gb : Nat} {L : List (Int × Int)} (h : AP w0 w hb S M m gb L) (o : Obj) : AP w0 (w.alloc o) hb S M m gb L := h.step ((Below.refl _ _).alloc (Nat.le_refl _) _)

set_option maxRecDepth 20000 in
set_option maxHeartbeats 4000000 in
theorem apart_any (a : Option Addr) (n cap : Nat) (f : Nat → Int × Int) (w : World) (hr : Row w a n f) (hwf : ∀ k, k < n → Wf (f k)) (hn : n ≤ 9223372036854775807) :
    Calls Try.prog 5 #[.slice a n cap] w fun e w' => e = .returned (.bool true) ∧ Below w.heap.size w w' := by
  obtain ⟨i0, hi, hz0, hz1, hz2⟩ := info_parts Try.info29
  have A := awake_any w
  go_enter Try.func5, Try.ntmps5
  go_wp2_with fail
  go_at_call 8
  refine A.mono ?_
  rintro e w1 ⟨rfl, b1⟩
  have N := held_new w1
  clear A
  go_wp2_with fail
  go_at_call 9
  refine N.mono ?_
  rintro e w2 ⟨hb, rfl, H2, b2⟩
  have bb : Below w.heap.size w w2 := b1.trans (b2.mono b1.size)
  have H2' := H2.base b1.size
  clear N b1 b2 H2
  go_wp2_with fail
  go_loopw [4] (fun v wr => ∃ (k m : Nat) (M : Int × Int → Prop), k ≤ 200 ∧ m ≤ k ∧ k ≤ n ∧ v = .int .i64 k ∧ Held w.heap.size wr hb M m ∧ Below w.heap.size w wr) (fun v _ => 200 - (intOf v).toNat)
  case atStart => exact ⟨0, 0, _, by omega, by omega, by omega, rfl, H2', bb⟩
  case round =>
    obtain ⟨k, m, M, hk, hm, hkn, rfl, H, bk⟩ := hrel
    clear H2' bb
    by_cases hlt : k < n ∧ k < 200
    · obtain ⟨hl1, hl2⟩ := hlt
      have hwk := hwf k hl1
      obtain ⟨b, off, rfl, hb1, hc⟩ := hr (by omega)
      obtain ⟨c0, c1⟩ := hc k hl1
      have d0 := (bk.cell (p := ⟨b, off + k * 2, none⟩) hb1).trans c0
      have d1 := (bk.cell (p := ⟨b, off + k * 2 + 1, none⟩) hb1).trans c1
      have i1 : (k : Int) < (n : Int) := by omega
      have i2 : (k : Int) < 200 := by omega
      clear hc hwf hr
      by_cases hin : ∃ y, M y ∧ y.2 = (f k).2
      · obtain ⟨y, hy, ey⟩ := hin
        have P := H.twice (f k) y hwk hy ey
        unfold vI at P
        go_wp2_with fail
        go_at_call 11
        refine P.mono ?_
        rintro e w3 ⟨rfl, b3⟩
        have H3 := H.below b3
        have b3' := bk.trans (b3.mono H.1)
        clear P H b3 d0 d1
        go_wp2
        go_roundw
        case rel => exact ⟨k + 1, m, M, by omega, by omega, by omega, by go_num, H3, b3'⟩
        case measure => simp [intOf]; omega
      · have P := H.push (by omega) (f k) hwk (fun y hy e => hin ⟨y, hy, e⟩)
        unfold vI at P
        clear hin
        go_wp2_with fail
        go_at_call 11
        refine P.mono ?_
        rintro e w3 ⟨rfl, H3, b3⟩
        have b3' := bk.trans b3
        clear P H b3 d0 d1
        go_wp2
        go_roundw
        case rel => exact ⟨k + 1, m + 1, _, by omega, by omega, by omega, by go_num, H3, b3'⟩
        case measure => simp [intOf]; omega
    · obtain ⟨hB, S, HS, hSB⟩ := H
      have hSl := HS.2.2.1
      rcases (by omega : ¬ (k : Int) < (n : Int) ∨ (k : Int) < (n : Int) ∧ ¬ (k : Int) < 200) with q1 | ⟨q1, q2⟩
      all_goals
        clear hr hwf hlt
        by_cases hm0 : m = 0
        · subst hm0
          have L1 := list_none HS
          go_wp2_with fail
          go_at_call 20
          refine L1.mono ?_
          rintro e w' ⟨rfl, hw⟩
          obtain rfl := hw.symm
          have hown : (wr.alloc (.cells #[] 29)).ownsRow wr.heap.size 29 2 (.slice (some ⟨wr.heap.size, 0, none⟩) 0 0) 0 [] := World.ownsRow_lit (e := 29) wr #[] 0 (Nat.le_refl _) (by unfold maxLen; omega) rfl
          have AA : AP w (wr.alloc (.cells #[] 29)) hb S M 0 wr.heap.size [] := ⟨HS.below ((Below.refl _ _).alloc (Nat.le_refl _) _), ⟨by simp, fun k hk => by omega⟩, bk.alloc bk.size _⟩
          clear L1
          go_wp2_with (at_builtin; refine wpList_append_own_none rfl _ _ 26 rfl wr.heap.size 29 i0 2 Try.underlying26 hi _ _ _ rfl hown rfl ?_)
          generalize (wr.alloc (.cells #[] 29)) = w6 at AA hown ⊢
          generalize wr.heap.size = gb at *
          clear hown
          go_loopw [7] (fun v wr => v = .int .i64 0 ∧ AP w wr hb S M 0 gb []) (fun _ _ => 0)
          case atStart => exact ⟨rfl, AA⟩
          case round =>
            obtain ⟨rfl, A0⟩ := hrel
            clear AA HS bk
            have P1 := peek_nil wr
            unfold vI at P1
            go_wp2_with fail
            go_at_call 21
            refine P1.mono ?_
            rintro e v1 ⟨rfl, c1⟩
            have A1 := (A0.step c1).alloc (.cells #[.int .u64 0, .int .i64 0] 29)
            have P2 := pop_nil (v1.alloc (.cells #[.int .u64 0, .int .i64 0] 29))
            unfold vI at P2
            clear A0 c1 P1
            go_wp2_with fail
            go_at_call 12
            refine P2.mono ?_
            rintro e v2 ⟨rfl, c2⟩
            have A2 := (A1.step c2).alloc (.cells #[.int .u64 0, .int .i64 0] 29)
            have P3 := get_nil 1 (v2.alloc (.cells #[.int .u64 0, .int .i64 0] 29))
            unfold vI at P3
            clear A1 c2 P2
            go_wp2_with fail
            go_at_call 17
            refine P3.mono ?_
            rintro e v3 ⟨rfl, c3⟩
            have A3 := (A2.step c3).alloc (.cells #[.int .u64 0, .int .i64 0] 29)
            have P4 := push_nil (0, 0) (v3.alloc (.cells #[.int .u64 0, .int .i64 0] 29))
            unfold vI at P4
            clear A2 c3 P3
            go_wp2_with fail
            go_at_call 11
            refine P4.mono ?_
            rintro e v4 ⟨rfl, c4⟩
            have A4 := A3.step c4
            clear A3 c4 P4
            go_wp2_with fail
            go_at_call 14
            refine (remove_nil 1 v4).mono ?_
            rintro e w' ⟨rfl, hw⟩
            obtain rfl := hw.symm
            have P5 := change_nil (0, 0) v4
            unfold vI at P5
            go_wp2_with fail
            go_at_call 16
            refine P5.mono ?_
            rintro e v5 ⟨rfl, c5⟩
            have A5 := A4.step c5
            clear A4 c5 P5
            go_wp2_with fail
            go_at_call 22
            refine (len_nil v5).mono ?_
            rintro e w' ⟨rfl, hw⟩
            obtain rfl := hw.symm
            go_wp2_with fail
            go_at_call 20
            refine (list_nil v5).mono ?_
            rintro e w' ⟨rfl, hw⟩
            obtain rfl := hw.symm
            go_wp2_with fail
            go_at_call 20
            refine (list_none A5.heap).mono ?_
            rintro e w' ⟨rfl, hw⟩
            obtain rfl := hw.symm
            have SM := same_yes none (some ⟨gb, 0, none⟩) 0 0 0 (fun _ => (0, 0)) (fun _ => (0, 0)) v5 (fun h => by omega) (fun h => by omega) (by omega) (fun k hk => by omega)
            go_wp2_with (go_at_call 19; refine SM.mono ?_; rintro e v6 ⟨rfl, c6⟩)
            go_ret
            exact ⟨rfl, (A5.step c6).below⟩
        · have hmp : 0 < m := by omega
          have L1 := list_some HS hmp
          go_wp2_with fail
          go_at_call 20
          refine L1.mono ?_
          rintro e w5 ⟨sa, cp1, L, rfl, A1, O1, b5⟩
          obtain ⟨ga, rfl, hga, OA⟩ := A1.own hmp
          have hown : (w5.alloc (.cells #[] 29)).ownsRow w5.heap.size 29 2 (.slice (some ⟨w5.heap.size, 0, none⟩) 0 0) 0 [] := World.ownsRow_lit (e := 29) w5 #[] 0 (Nat.le_refl _) (by unfold maxLen; omega) rfl
          have OA' : Own (w5.alloc (.cells #[] 29)) ga m (fun i => L.getD i (0, 0)) := OA.kept ((Kept.refl (fun _ => False) w5).alloc _) id
          have CA := cells_at OA'.row
          have CO := cells_one (fun i => L.getD i (0, 0)) m
          have CL := cellsOf_len (fun i => L.getD i (0, 0)) m
          have hgs := OA.1
          clear L1
          go_wp2_with (at_builtin; refine wpList_append_lies _ rfl (.tmp 36) (.tmp 37) 26 rfl w5.heap.size 29 i0 (.agg #[.int .u64 0, .int .i64 0]) 2 16 Try.underlying26 hi hz0 hz1 hz2 rfl (by decide) _ 0 [] rfl hown ⟨ga, 0, none⟩ m cp1 (cellsOf (fun i => L.getD i (0, 0)) m) rfl CL CA CO hmp (by unfold maxLen; omega) (by omega) (by simp) _ rfl ?_; intro gb cb w6 hown' hgrow hat hlt6)
          rw [Nat.zero_add, List.nil_append] at hown'
          have hgb : w5.heap.size ≤ gb := by
            rcases hat with e | e
            · exact (hown.lt gb e).1
            · rw [e]; simp
          have b6 : Below w5.heap.size w5 w6 := ((Below.refl _ _).alloc (Nat.le_refl _) _).grown hgrow (by simp) (fun q e => (hown.lt q e).1)
          have AA : AP w w6 hb S M m gb L := ⟨(HS.below b5).below b6, (Arr.of_owns hown').own, (bk.trans (b5.mono bk.size)).trans (b6.mono (Nat.le_trans bk.size b5.size))⟩
          have O6 : Own w6 ga m (fun i => L.getD i (0, 0)) := OA.kept (Kept.of_below b6 (fun _ => False)) id
          have hne : gb ≠ ga := by omega
          have nSa : ¬ S ga := fun h => by have := hSl ga h; omega
          have hwga : w.heap.size ≤ ga := Nat.le_trans bk.size hga
          clear hown hown' hgrow hat CA CO CL OA OA' b5 b6 A1 HS bk
          go_wp2_with fail
          go_loopw [7] (fun v wr => ∃ (j : Nat) (fa : Nat → Int × Int), j ≤ m ∧ v = .int .i64 j ∧ Own wr ga m fa ∧ AP w wr hb S M m gb L) (fun v _ => m - (intOf v).toNat)
          case atStart => exact ⟨0, _, by omega, rfl, O6, AA⟩
          case round =>
            obtain ⟨j, fa, hj, rfl, OJ, A0⟩ := hrel
            clear AA O6
            by_cases hjm : j < m
            · have hjm' : (j : Int) < (m : Int) := by omega
              obtain ⟨⟨e0, e1⟩, g0, g1⟩ := OJ.2 j hjm
              go_wp2
              go_roundw
              case rel =>
                have k7 : Kept (fun k => k = ga) wr ((wr.setCell ⟨ga, j * 2, none⟩ (.int .u64 1)).setCell ⟨ga, j * 2 + 1, none⟩ (.int .i64 (-5 - (j : Int)))) := ((Kept.refl (fun k => k = ga) wr).setCell ⟨ga, j * 2, none⟩ _ rfl).setCell ⟨ga, j * 2 + 1, none⟩ _ rfl
                exact ⟨j + 1, _, by omega, by go_num, OJ.store hjm (1, -5 - (j : Int)), ⟨A0.heap.kept k7 (fun b hb e => nSa (e ▸ hb)), A0.copy.kept k7 hne, A0.below.trans (k7.below A0.below.size (fun k e => e ▸ hwga))⟩⟩
              case measure => simp [intOf]; omega
            · obtain rfl : j = m := by omega
              clear OJ
              have P1 := peek_nil wr
              unfold vI at P1
              go_wp2_with fail
              go_at_call 21
              refine P1.mono ?_
              rintro e v1 ⟨rfl, c1⟩
              have A1 := (A0.step c1).alloc (.cells #[.int .u64 0, .int .i64 0] 29)
              have P2 := pop_nil (v1.alloc (.cells #[.int .u64 0, .int .i64 0] 29))
              unfold vI at P2
              clear A0 c1 P1
              go_wp2_with fail
              go_at_call 12
              refine P2.mono ?_
              rintro e v2 ⟨rfl, c2⟩
              have A2 := (A1.step c2).alloc (.cells #[.int .u64 0, .int .i64 0] 29)
              have P3 := get_nil 1 (v2.alloc (.cells #[.int .u64 0, .int .i64 0] 29))
              unfold vI at P3
              clear A1 c2 P2
              go_wp2_with fail
              go_at_call 17
              refine P3.mono ?_
              rintro e v3 ⟨rfl, c3⟩
              have A3 := (A2.step c3).alloc (.cells #[.int .u64 0, .int .i64 0] 29)
              have P4 := push_nil (0, 0) (v3.alloc (.cells #[.int .u64 0, .int .i64 0] 29))
              unfold vI at P4
              clear A2 c3 P3
              go_wp2_with fail
              go_at_call 11
              refine P4.mono ?_
              rintro e v4 ⟨rfl, c4⟩
              have A4 := A3.step c4
              clear A3 c4 P4
              go_wp2_with fail
              go_at_call 14
              refine (remove_nil 1 v4).mono ?_
              rintro e w' ⟨rfl, hw⟩
              obtain rfl := hw.symm
              have P5 := change_nil (0, 0) v4
              unfold vI at P5
              go_wp2_with fail
              go_at_call 16
              refine P5.mono ?_
              rintro e v5 ⟨rfl, c5⟩
              have A5 := A4.step c5
              clear A4 c5 P5
              go_wp2_with fail
              go_at_call 22
              refine (len_nil v5).mono ?_
              rintro e w' ⟨rfl, hw⟩
              obtain rfl := hw.symm
              go_wp2_with fail
              go_at_call 20
              refine (list_nil v5).mono ?_
              rintro e w' ⟨rfl, hw⟩
              obtain rfl := hw.symm
              have L2 := list_some A5.heap hmp
              go_wp2_with fail
              go_at_call 20
              refine L2.mono ?_
              rintro e v6 ⟨sa2, cp2, Lb, rfl, B1, O2, c6⟩
              have A6 := A5.step c6
              have eL : Lb = L := O2.unique O1 (fun y => Iff.rfl)
              have SM := same_yes sa2 (some ⟨gb, 0, none⟩) j cp2 cb _ _ v6 B1.row A6.copy.row (by omega) (fun k _ => by rw [eL])
              clear L2 A5
              go_wp2_with (go_at_call 19; refine SM.mono ?_; rintro e v7 ⟨rfl, c7⟩)
              go_ret
              exact ⟨rfl, (A6.step c7).below⟩
end Go.Proofs.Ytomohkoenohmbaa
