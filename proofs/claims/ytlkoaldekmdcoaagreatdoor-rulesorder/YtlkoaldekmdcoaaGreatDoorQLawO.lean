/-
  'RulesOrder' answers true. Condition: the configuration lies in memory; errorType holds what its text lays.
-/
import Derived.Test.YtlkoaldekmdcoaaGreatDoorQRE
import Derived.Test.YtlkoaldekmdcoaaGreatDoorQSmB
import Derived.Test.YtlkoaldekmdcoaaGreatDoorQCpy
import Derived.StillTailTactics
namespace Go.Proofs.YtlkoaldekmdcoaaGreatDoor
open Go.RowKit

theorem Tryz.mixed : Tryz.prog.follows Departure.mixedOrders = true := by kernel_rfl
theorem kept_drew {S : Nat → Prop} {w w' : World} (h : Kept S w w') : Kept S w w'.drew := ⟨h.1, h.2, h.3, h.4, h.5⟩
theorem Wr.drew {w : World} {g t z n i : Nat} {F : Nat → List Value} (h : Wr w g t z n i F) : Wr w.drew g t z n i F := h
/-- A region that draws its order, of which the first n operations only read, and the others wait for one another. -/
theorem region_tail {id : Nat} {Q : Exit → Act → World → Prop} {a : Act} {w : World} {l : List Oper} (n : Nat) (hB : Region.lexTailB .any l.toArray n = true)
    (h : wpStill Tryz.prog l.toArray w.drew (fun a' => wpList Tryz.prog l.toArray Q (l.drop n) a' w.drew) (l.take n) a) : (Code.region id l.toArray true).wp Tryz.prog Q a w :=
  wp_region_still_tail n Tryz.mixed hB h

set_option maxRecDepth 20000 in
set_option maxHeartbeats 16000000 in
theorem order_ok (v : Value) (turn : Int) (C : Cf) (w : World) (h : CfR w v C) (he : ET w) : Calls Tryz.prog 5 #[v, .int .i64 turn] w fun e w' => e = .returned (.bool true) ∧ Below w.heap.size w w' := by
  have HF : Hd (Fits C) := ⟨h.fits⟩
  have HV : Hd (∀ W, Below w.heap.size w W → CfR W v C) := ⟨fun W b => h.carry b⟩
  have HT : Hd (∀ W, Below w.heap.size w W → ET W) := ⟨fun W b => he.stays b⟩
  obtain ⟨aL, cL, aS, cS, -, e0, -⟩ := h.ex
  subst e0
  clear h he
  obtain ⟨x0, x1, x2, x3, L, S⟩ := C
  simp only at HV ⊢
  obtain ⟨n, hn⟩ : ∃ n, n = L.length := ⟨_, rfl⟩
  obtain ⟨m, hm⟩ : ∃ m, m = S.length := ⟨_, rfl⟩
  have HN : Hd (n = L.length ∧ m = S.length) := ⟨hn, hm⟩
  rw [← hn, ← hm] at HV ⊢
  clear hn hm
  have AL := alloc_below w (.cells #[.int .i64 x0, .int .i64 x1, .int .i64 x2, .int .i64 x3, .slice aL n cL, .slice aS m cS] 25)
  have NB := Blk.new w 25 #[.int .i64 x0, .int .i64 x1, .int .i64 x2, .int .i64 x3, .slice aL n cL, .slice aS m cS]
  have AW := awake_ok (w.alloc (.cells #[.int .i64 x0, .int .i64 x1, .int .i64 x2, .int .i64 x3, .slice aL n cL, .slice aS m cS] 25)) (HT.out _ AL)
  go_enter Tryz.func5, Tryz.ntmps5
  go_wp2_with fail
  go_at_call 6
  refine AW.mono ?_
  rintro e w2 ⟨rfl, b2⟩
  have B2 : Below w.heap.size w w2 := AL.trans (b2.mono AL.size)
  have N2 := NB.kept (Kept.of_below b2 (fun _ => False)) id
  clear AW AL NB b2
  have SM := small_any _ _ w2 (HV.out w2 B2)
  have c0 := N2.cellv (v := .int .i64 x0) 0 rfl
  have c1 := N2.cellv (v := .int .i64 x1) 1 rfl
  have c2 := N2.cellv (v := .int .i64 x2) 2 rfl
  have c3 := N2.cellv (v := .int .i64 x3) 3 rfl
  have c4 := N2.cellv (v := .slice aL n cL) 4 rfl
  have c5 := N2.cellv (v := .slice aS m cS) 5 rfl
  obtain ⟨gc, hgc⟩ : ∃ gc, gc = w.heap.size := ⟨_, rfl⟩
  rw [← hgc] at c0 c1 c2 c3 c4 c5 N2 ⊢
  have HGC : Hd (gc = w.heap.size) := ⟨hgc⟩
  clear hgc
  go_wp2_with fail
  go_at_call 7
  refine SM.mono ?_
  rintro e w3 ⟨⟨b, rfl, hbnd⟩, b3⟩
  have B3 : Below w.heap.size w w3 := B2.trans (b3.mono B2.size)
  have N3 := N2.kept (Kept.of_below b3 (fun _ => False)) id
  have HB : Hd (b = true → Bnd 80 ⟨x0, x1, x2, x3, L, S⟩) := ⟨hbnd⟩
  clear SM b3 B2 c0 c1 c2 c3 c4 c5 hbnd N2
  cases b with
  | false =>
    go_wp2_with fail
    go_ret
    exact ⟨rfl, B3⟩
  | true =>
    have hbnd := HB.out rfl
    have FL := fill_ok _ _ w3 (HV.out w3 B3) (hbnd.mono (by decide))
    have FI := fillC_fits HF.out hbnd (by decide)
    have FB := fillC_bnd hbnd
    have FP : 0 < (fillC ⟨x0, x1, x2, x3, L, S⟩).levels.length ∧ 0 < (fillC ⟨x0, x1, x2, x3, L, S⟩).schemas.length := by
      obtain ⟨j, hj, -⟩ := any_at (fillL_has L).1
      obtain ⟨s, hs, -⟩ := List.any_eq_true.1 (fillS_has S).1
      exact ⟨Nat.lt_of_le_of_lt (Nat.zero_le _) hj, List.length_pos_of_mem hs⟩
    have c0 := N3.cellv (v := .int .i64 x0) 0 rfl
    have c1 := N3.cellv (v := .int .i64 x1) 1 rfl
    have c2 := N3.cellv (v := .int .i64 x2) 2 rfl
    have c3 := N3.cellv (v := .int .i64 x3) 3 rfl
    have c4 := N3.cellv (v := .slice aL n cL) 4 rfl
    have c5 := N3.cellv (v := .slice aS m cS) 5 rfl
    go_wp2_with fail
    go_at_call 8
    refine FL.mono ?_
    rintro e w4 ⟨⟨v, rfl, hcw⟩, b4⟩
    have B4 : Below w.heap.size w w4 := B3.trans (b4.mono B3.size)
    have N4 := N3.kept (Kept.of_below b4 (fun _ => False)) id
    have R4 := hcw.read FI
    clear FL b4 B3 N3 c0 c1 c2 c3 c4 c5
    have HF2 : Hd (Bnd 82 (fillC ⟨x0, x1, x2, x3, L, S⟩) ∧ Fits (fillC ⟨x0, x1, x2, x3, L, S⟩) ∧ 0 < (fillC ⟨x0, x1, x2, x3, L, S⟩).levels.length ∧ 0 < (fillC ⟨x0, x1, x2, x3, L, S⟩).schemas.length) := ⟨FB, FI, FP⟩
    clear hbnd FI FB FP HF HN HB HV
    generalize fillC ⟨x0, x1, x2, x3, L, S⟩ = D at *
    have HD : Hd (∀ W, Below w4.heap.size w4 W → CfR W v D) := ⟨fun W b => R4.carry b⟩
    have HCW : Hd (CfW w3.heap.size w4 v D) := ⟨hcw⟩
    clear hcw
    obtain ⟨bL, dL, bS, dS, -, e0, -⟩ := R4.ex
    subst e0
    clear R4
    clear HD
    obtain ⟨y0, y1, y2, y3, L2, S2⟩ := D
    simp only at HCW ⊢
    obtain ⟨p, hp⟩ : ∃ p, p = L2.length := ⟨_, rfl⟩
    obtain ⟨r, hr⟩ : ∃ r, r = S2.length := ⟨_, rfl⟩
    have HP : Hd (p = L2.length ∧ r = S2.length) := ⟨hp, hr⟩
    have p9 : p ≤ 82 := by rw [hp]; exact HF2.out.1.lv
    have r9 : r ≤ 82 := by rw [hr]; exact HF2.out.1.sc
    have p0 : 0 < p := by rw [hp]; exact HF2.out.2.2.1
    have r0 : 0 < r := by rw [hr]; exact HF2.out.2.2.2
    rw [← hp, ← hr] at HCW ⊢
    clear hp hr
    obtain ⟨N5, K5⟩ := six_set N4 (.int .i64 y0) (.int .i64 y1) (.int .i64 y2) (.int .i64 y3) (.slice bL p dL) (.slice bS r dS)
    have o : ∀ t, 25 ≠ t → Off t (fun k => k = gc) w4 := fun t ht => off_blk N4 ht
    have CW5 := HCW.out.off K5 (o 9 (by decide)) (o 40 (by decide)) (o 46 (by decide)) (o 51 (by decide))
    have R5 := CW5.read HF2.out.2.1
    have B5 : Below w.heap.size w ((((((w4.setCell ⟨gc, 0, none⟩ (.int .i64 y0)).setCell ⟨gc, 1, none⟩ (.int .i64 y1)).setCell ⟨gc, 2, none⟩ (.int .i64 y2)).setCell ⟨gc, 3, none⟩ (.int .i64 y3)).setCell ⟨gc, 4, none⟩ (.slice bL p dL)).setCell ⟨gc, 5, none⟩ (.slice bS r dS)) := B4.trans (K5.below B4.size (fun j hj => by rw [hj, HGC.out]; exact Nat.le_refl _))
    have c0 := N4.cellv (v := .int .i64 x0) 0 rfl
    have c1 := N4.cellv (v := .int .i64 x1) 1 rfl
    have c2 := N4.cellv (v := .int .i64 x2) 2 rfl
    have c3 := N4.cellv (v := .int .i64 x3) 3 rfl
    have c4 := N4.cellv (v := .slice aL n cL) 4 rfl
    have c5 := N4.cellv (v := .slice aS m cS) 5 rfl
    have fz : ∀ i, w4.frozen? ⟨gc, i, none⟩ = false := fun i => N4.frozen i
    have f0 := fz 0
    have f1 := fz 1
    have f2 := fz 2
    have f3 := fz 3
    have f4 := fz 4
    have f5 := fz 5
    clear N4 K5 o CW5 B4 HCW fz
    go_upto_region 6 with fail
    generalize ((((((w4.setCell ⟨gc, 0, none⟩ (.int .i64 y0)).setCell ⟨gc, 1, none⟩ (.int .i64 y1)).setCell ⟨gc, 2, none⟩ (.int .i64 y2)).setCell ⟨gc, 3, none⟩ (.int .i64 y3)).setCell ⟨gc, 4, none⟩ (.slice bL p dL)).setCell ⟨gc, 5, none⟩ (.slice bS r dS)) = w5 at *
    clear c0 c1 c2 c3 c4 c5 f0 f1 f2 f3 f4 f5
    have c0 := N5.cellv (v := .int .i64 y0) 0 rfl
    have c1 := N5.cellv (v := .int .i64 y1) 1 rfl
    have c2 := N5.cellv (v := .int .i64 y2) 2 rfl
    have c3 := N5.cellv (v := .int .i64 y3) 3 rfl
    have c4 := N5.cellv (v := .slice bL p dL) 4 rfl
    have c5 := N5.cellv (v := .slice bS r dS) 5 rfl
    have CP := copy_ok _ _ w5 R5 (HF2.out.1.mono (by decide))
    (try simp only [← HP.out.1, ← HP.out.2] at CP)
    have HD : Hd (∀ W, Below w5.heap.size w5 W → CfR W (.agg #[.int .i64 y0, .int .i64 y1, .int .i64 y2, .int .i64 y3, .slice bL p dL, .slice bS r dS]) ⟨y0, y1, y2, y3, L2, S2⟩) := ⟨fun W b => by
      have := R5.carry b
      (try simp only [← HP.out.1, ← HP.out.2] at this)
      exact this⟩
    obtain ⟨aL', cL', aS', cS', V5, e', -, -, hLv5, hV5, hSc5, hRl5⟩ := R5.ex
    injection e' with e'
    simp only [Array.mk.injEq, List.cons.injEq, Value.slice.injEq, and_true] at e'
    obtain ⟨-, -, -, -, ⟨eL1, -, -⟩, eS1, -, -⟩ := e'
    subst eL1 eS1
    obtain ⟨bB, oB, rfl, hbB, hcB⟩ := hLv5 (by show 0 < L2.length; rw [← HP.out.1]; exact p0)
    obtain ⟨sB, oS, rfl, hsB, hcS⟩ := hSc5 (by show 0 < S2.length; rw [← HP.out.2]; exact r0)
    have HLC : Hd (∀ W, Below w5.heap.size w5 W → ∀ k (h : k < L2.length), ∀ j, j < 10 → W.cell? ⟨bB, oB + k * 10 + j, none⟩ = (lvC L2[k])[j]?) := ⟨fun W b k h j hj => (b.cell (p := ⟨bB, oB + k * 10 + j, none⟩) hbB).trans (hcB k h j hj)⟩
    have HSC : Hd (V5.length = S2.length ∧ (∀ W, Below w5.heap.size w5 W → ∀ k (h : k < S2.length) (h' : k < V5.length), ∀ j, j < 5 → W.cell? ⟨sB, oS + k * 5 + j, none⟩ = (scC S2[k] V5[k])[j]?) ∧ ∀ W, Below w5.heap.size w5 W → ∀ k (h : k < S2.length) (h' : k < V5.length), RlR W V5[k] S2[k].rules) := ⟨hV5, fun W b k h h' j hj => (b.cell (p := ⟨sB, oS + k * 5 + j, none⟩) hsB).trans (hcS k h h' j hj), fun W b k h h' => (hRl5 k h h').carry b⟩
    clear hLv5 hSc5 hV5 hRl5 hcB hcS hbB hsB
    go_wp2_with fail
    go_at_call 9
    refine CP.mono ?_
    rintro e w6 ⟨⟨v6, rfl, hcw⟩, b6⟩
    have B6 : Below w.heap.size w w6 := B5.trans (b6.mono B5.size)
    obtain ⟨vL, vS, V6, rfl, hLW, hSW⟩ := hcw.ex
    obtain ⟨aL6, fL, rfl, hfL, hrL⟩ := owns_read hLW
    obtain ⟨aS6, fS, rfl, hfS, hrS⟩ := owns_read hSW.own
    obtain ⟨gL, curL, rfl, hBL, hgL, hsL, -⟩ := hrL (by show 0 < L2.length; rw [← HP.out.1]; exact p0)
    obtain ⟨gS, curS, rfl, hBS, hgS, hsS, -⟩ := hrS (by show 0 < S2.length; rw [← HP.out.2]; exact r0)
    (try simp only at hsL hsS hfL hfS ⊢)
    (try simp only [← HP.out.1] at hfL ⊢); (try simp only [← HP.out.2] at hfS ⊢)
    have WL6 : ∀ F, Wr w6 gL 40 10 p 0 F := fun F => ⟨curL, hgL, by rw [hsL]; exact Nat.mul_le_mul_right 10 hfL, fun k hk => absurd hk (Nat.not_lt_zero _)⟩
    have WS6 : ∀ F, Wr w6 gS 46 5 r 0 F := fun F => ⟨curS, hgS, by rw [hsS]; exact Nat.mul_le_mul_right 5 hfS, fun k hk => absurd hk (Nat.not_lt_zero _)⟩
    have N6 := N5.kept (Kept.of_below b6 (fun _ => False)) id
    have HSL : Hd (gS ≠ gL) := ⟨hgS.ne hgL (by decide)⟩
    have HBG : Hd (w5.heap.size ≤ gL ∧ w5.heap.size ≤ gS ∧ gc < w5.heap.size ∧ w.heap.size ≤ w5.heap.size) := ⟨hBL, hBS, N5.lt, B5.size⟩
    clear CP c0 c1 c2 c3 c4 c5 hcw hLW hSW hrL hrS hgL hgS hsL hsS B5 N5 R5 hBL hBS
    have AL := alloc_below w6 (.cells #[.int .i64 y0, .int .i64 y1, .int .i64 y2, .int .i64 y3, .slice (some ⟨gL, 0, none⟩) p fL, .slice (some ⟨gS, 0, none⟩) r fS] 25)
    have ND := Blk.new w6 25 #[.int .i64 y0, .int .i64 y1, .int .i64 y2, .int .i64 y3, .slice (some ⟨gL, 0, none⟩) p fL, .slice (some ⟨gS, 0, none⟩) r fS]
    have N7 := N6.kept (Kept.of_below AL (fun _ => False)) id
    have WL7 := fun F => (WL6 F).kept (Kept.of_below AL (fun _ => False)) id
    have WS7 := fun F => (WS6 F).kept (Kept.of_below AL (fun _ => False)) id
    have B7 : Below w.heap.size w (w6.alloc (.cells #[.int .i64 y0, .int .i64 y1, .int .i64 y2, .int .i64 y3, .slice (some ⟨gL, 0, none⟩) p fL, .slice (some ⟨gS, 0, none⟩) r fS] 25)) := B6.trans (AL.mono B6.size)
    have A7 : Below w5.heap.size w5 (w6.alloc (.cells #[.int .i64 y0, .int .i64 y1, .int .i64 y2, .int .i64 y3, .slice (some ⟨gL, 0, none⟩) p fL, .slice (some ⟨gS, 0, none⟩) r fS] 25)) := b6.trans (AL.mono b6.size)
    have HLT : Hd (gL < w6.heap.size ∧ gS < w6.heap.size) := ⟨(WL6 (fun _ => [])).lt, (WS6 (fun _ => [])).lt⟩
    clear WL6 WS6 N6 B6 b6 AL
    go_upto_region 7 with fail
    generalize w6.alloc _ = w7 at *
    generalize hgd : w6.heap.size = gd at *
    have c4 := N7.cellv (v := .slice (some ⟨bB, oB, none⟩) p dL) 4 rfl
    have c5 := N7.cellv (v := .slice (some ⟨sB, oS, none⟩) r dS) 5 rfl
    go_quiet (fail)
    have DR : Hd (∀ n, Below w7.heap.size w7 (w7.drewN n)) := ⟨fun n => below_drew w7 n⟩
    have I7 : Hd (∀ n F, Hd (Below w.heap.size w (w7.drewN n) ∧ Below w5.heap.size w5 (w7.drewN n) ∧ Blk (w7.drewN n) gc 25 #[.int .i64 y0, .int .i64 y1, .int .i64 y2, .int .i64 y3, .slice (some ⟨bB, oB, none⟩) p dL, .slice (some ⟨sB, oS, none⟩) r dS] ∧ Blk (w7.drewN n) gd 25 #[.int .i64 y0, .int .i64 y1, .int .i64 y2, .int .i64 y3, .slice (some ⟨gL, 0, none⟩) p fL, .slice (some ⟨gS, 0, none⟩) r fS] ∧ Wr (w7.drewN n) gL 40 10 p 0 (lvF L2.reverse) ∧ Wr (w7.drewN n) gS 46 5 r 0 F)) := ⟨fun n F => ⟨B7.trans ((DR.out n).mono B7.size), A7.trans ((DR.out n).mono A7.size), N7, ND, WL7 _, WS7 F⟩⟩
    clear c4 c5 N7 ND WL7 WS7 B7 A7 DR
    go_wp2_with fail
    go_loopw [8] (fun s8 wr => ∃ k : Nat, k ≤ p ∧ s8 = .int .i64 k ∧ Hd (∀ F, (Below w.heap.size w wr ∧ Below w5.heap.size w5 wr ∧ Blk wr gc 25 #[.int .i64 y0, .int .i64 y1, .int .i64 y2, .int .i64 y3, .slice (some ⟨bB, oB, none⟩) p dL, .slice (some ⟨sB, oS, none⟩) r dS] ∧ Blk wr gd 25 #[.int .i64 y0, .int .i64 y1, .int .i64 y2, .int .i64 y3, .slice (some ⟨gL, 0, none⟩) p fL, .slice (some ⟨gS, 0, none⟩) r fS] ∧ Wr wr gL 40 10 p k (lvF L2.reverse) ∧ Wr wr gS 46 5 r 0 F))) (fun s8 _ => p - (intOf s8).toNat)
    case atStart => exact ⟨0, Nat.zero_le _, rfl, ⟨fun F => (I7.out _ F).out⟩⟩
    case round =>
      obtain ⟨k, hk, rfl, hI⟩ := hrel
      clear I7
      by_cases hlt : k < p
      · obtain ⟨q, hq⟩ : ∃ q : Nat, p = k + 1 + q := ⟨p - k - 1, by omega⟩
        have hqL : q < L2.length := by rw [← HP.out.1]; omega
        have HQ : Hd (p = k + 1 + q) := ⟨hq⟩
        have u1 : IntKind.i64.wrap ((p : Int) - 1) = (p : Int) - 1 := by rw [IntKind.wrap_i64]; omega
        have u2 : IntKind.i64.wrap ((p : Int) - 1 - (k : Int)) = (q : Int) := by rw [IntKind.wrap_i64]; omega
        have qp : q < p := by omega
        clear hq
        obtain ⟨j1, j2, j3, j4, j5, j6⟩ := hI.out (fun _ => [])
        have cs := HLC.out wr j2 q hqL
        have z0 : wr.cell? ⟨bB, oB + q * 10, none⟩ = some (.string L2[q].name) := cs 0 (by decide)
        have z1 : wr.cell? ⟨bB, oB + q * 10 + 1, none⟩ = some (.int .i64 L2[q].kind) := cs 1 (by decide)
        have z2 : wr.cell? ⟨bB, oB + q * 10 + 2, none⟩ = some (.int .i64 L2[q].shares) := cs 2 (by decide)
        have z3 : wr.cell? ⟨bB, oB + q * 10 + 3, none⟩ = some (.int .i64 L2[q].lend) := cs 3 (by decide)
        have z4 : wr.cell? ⟨bB, oB + q * 10 + 4, none⟩ = some (.int .i64 L2[q].borrow) := cs 4 (by decide)
        have z5 : wr.cell? ⟨bB, oB + q * 10 + 5, none⟩ = some (.int .i64 L2[q].queues) := cs 5 (by decide)
        have z6 : wr.cell? ⟨bB, oB + q * 10 + 6, none⟩ = some (.int .i64 L2[q].hand) := cs 6 (by decide)
        have z7 : wr.cell? ⟨bB, oB + q * 10 + 7, none⟩ = some (.int .i64 L2[q].length) := cs 7 (by decide)
        have z8 : wr.cell? ⟨bB, oB + q * 10 + 8, none⟩ = some (.int .i64 L2[q].wait) := cs 8 (by decide)
        have z9 : wr.cell? ⟨bB, oB + q * 10 + 9, none⟩ = some (.int .i64 L2[q].guess) := cs 9 (by decide)
        have HRV : Hd (lvF L2.reverse k = lvC L2[q]) := ⟨by
          rw [lvF_at (by rw [List.length_reverse, ← HP.out.1]; exact hlt), List.getElem_reverse]
          congr 2
          have := HQ.out
          rw [← HP.out.1]; omega⟩
        have c4 := j3.cellv (v := .slice (some ⟨bB, oB, none⟩) p dL) 4 rfl
        have d4 := j4.cellv (v := .slice (some ⟨gL, 0, none⟩) p fL) 4 rfl
        obtain ⟨⟨r0, m0⟩, n0⟩ := j5.room (q := k * 10) (by omega)
        obtain ⟨⟨r1, m1⟩, n1⟩ := j5.room (q := k * 10 + 1) (by omega)
        obtain ⟨⟨r2, m2⟩, n2⟩ := j5.room (q := k * 10 + 2) (by omega)
        obtain ⟨⟨r3, m3⟩, n3⟩ := j5.room (q := k * 10 + 3) (by omega)
        obtain ⟨⟨r4, m4⟩, n4⟩ := j5.room (q := k * 10 + 4) (by omega)
        obtain ⟨⟨r5, m5⟩, n5⟩ := j5.room (q := k * 10 + 5) (by omega)
        obtain ⟨⟨r6, m6⟩, n6⟩ := j5.room (q := k * 10 + 6) (by omega)
        obtain ⟨⟨r7, m7⟩, n7⟩ := j5.room (q := k * 10 + 7) (by omega)
        obtain ⟨⟨r8, m8⟩, n8⟩ := j5.room (q := k * 10 + 8) (by omega)
        obtain ⟨⟨r9, m9⟩, n9⟩ := j5.room (q := k * 10 + 9) (by omega)
        have HK : Hd (k < p) := ⟨hlt⟩
        have HNX : Hd (∀ W, Kept (fun b => b = gL) wr W → Wr W gL 40 10 p (k + 1) (lvF L2.reverse) → ∀ F, (Below w.heap.size w W ∧ Below w5.heap.size w5 W ∧ Blk W gc 25 #[.int .i64 y0, .int .i64 y1, .int .i64 y2, .int .i64 y3, .slice (some ⟨bB, oB, none⟩) p dL, .slice (some ⟨sB, oS, none⟩) r dS] ∧ Blk W gd 25 #[.int .i64 y0, .int .i64 y1, .int .i64 y2, .int .i64 y3, .slice (some ⟨gL, 0, none⟩) p fL, .slice (some ⟨gS, 0, none⟩) r fS] ∧ Wr W gL 40 10 p (k + 1) (lvF L2.reverse) ∧ Wr W gS 46 5 r 0 F)) := ⟨fun W kp wl F => by
          obtain ⟨i1, i2, i3, i4, i5, i6⟩ := hI.out F
          have hg1 : w.heap.size ≤ gL := Nat.le_trans HBG.out.2.2.2 HBG.out.1
          exact ⟨i1.trans (kp.below i1.size (fun j hj => by rw [hj]; exact hg1)), i2.trans (kp.below i2.size (fun j hj => by rw [hj]; exact HBG.out.1)), i3.kept kp (by have := HBG.out; omega), i4.kept kp (by have := HLT.out; omega), wl, i6.kept kp HSL.out⟩⟩
        have P10 := j5.put10 hlt (.string L2[q].name) (.int .i64 L2[q].kind) (.int .i64 L2[q].shares) (.int .i64 L2[q].lend) (.int .i64 L2[q].borrow) (.int .i64 L2[q].queues) (.int .i64 L2[q].hand) (.int .i64 L2[q].length) (.int .i64 L2[q].wait) (.int .i64 L2[q].guess) (by rw [HRV.out]; rfl)
        clear j1 j2 j3 j4 j5 j6 cs HRV hI
        generalize L2[q] = l at *
        have i1 : (k : Int) < (p : Int) := by omega
        have i2 : (q : Int) < (p : Int) := by omega
        go_upto_region 11 with fail
        refine region_tail 12 (by kernel_rfl) ?_
        simp only [List.take_succ_cons, List.take_zero, List.drop_succ_cons, List.drop_zero]
        repeat still_step
        refine wpStill_nil ?_
        go_wp2_with fail
        have GO : Hd (∀ F, (Below w.heap.size w ((((((((((wr.setCell ⟨gL, k * 10, none⟩ (.string l.name)).setCell ⟨gL, k * 10 + 1, none⟩ (.int .i64 l.kind)).setCell ⟨gL, k * 10 + 2, none⟩ (.int .i64 l.shares)).setCell ⟨gL, k * 10 + 3, none⟩ (.int .i64 l.lend)).setCell ⟨gL, k * 10 + 4, none⟩ (.int .i64 l.borrow)).setCell ⟨gL, k * 10 + 5, none⟩ (.int .i64 l.queues)).setCell ⟨gL, k * 10 + 6, none⟩ (.int .i64 l.hand)).setCell ⟨gL, k * 10 + 7, none⟩ (.int .i64 l.length)).setCell ⟨gL, k * 10 + 8, none⟩ (.int .i64 l.wait)).setCell ⟨gL, k * 10 + 9, none⟩ (.int .i64 l.guess)).drew ∧ Below w5.heap.size w5 ((((((((((wr.setCell ⟨gL, k * 10, none⟩ (.string l.name)).setCell ⟨gL, k * 10 + 1, none⟩ (.int .i64 l.kind)).setCell ⟨gL, k * 10 + 2, none⟩ (.int .i64 l.shares)).setCell ⟨gL, k * 10 + 3, none⟩ (.int .i64 l.lend)).setCell ⟨gL, k * 10 + 4, none⟩ (.int .i64 l.borrow)).setCell ⟨gL, k * 10 + 5, none⟩ (.int .i64 l.queues)).setCell ⟨gL, k * 10 + 6, none⟩ (.int .i64 l.hand)).setCell ⟨gL, k * 10 + 7, none⟩ (.int .i64 l.length)).setCell ⟨gL, k * 10 + 8, none⟩ (.int .i64 l.wait)).setCell ⟨gL, k * 10 + 9, none⟩ (.int .i64 l.guess)).drew ∧ Blk ((((((((((wr.setCell ⟨gL, k * 10, none⟩ (.string l.name)).setCell ⟨gL, k * 10 + 1, none⟩ (.int .i64 l.kind)).setCell ⟨gL, k * 10 + 2, none⟩ (.int .i64 l.shares)).setCell ⟨gL, k * 10 + 3, none⟩ (.int .i64 l.lend)).setCell ⟨gL, k * 10 + 4, none⟩ (.int .i64 l.borrow)).setCell ⟨gL, k * 10 + 5, none⟩ (.int .i64 l.queues)).setCell ⟨gL, k * 10 + 6, none⟩ (.int .i64 l.hand)).setCell ⟨gL, k * 10 + 7, none⟩ (.int .i64 l.length)).setCell ⟨gL, k * 10 + 8, none⟩ (.int .i64 l.wait)).setCell ⟨gL, k * 10 + 9, none⟩ (.int .i64 l.guess)).drew gc 25 #[.int .i64 y0, .int .i64 y1, .int .i64 y2, .int .i64 y3, .slice (some ⟨bB, oB, none⟩) p dL, .slice (some ⟨sB, oS, none⟩) r dS] ∧ Blk ((((((((((wr.setCell ⟨gL, k * 10, none⟩ (.string l.name)).setCell ⟨gL, k * 10 + 1, none⟩ (.int .i64 l.kind)).setCell ⟨gL, k * 10 + 2, none⟩ (.int .i64 l.shares)).setCell ⟨gL, k * 10 + 3, none⟩ (.int .i64 l.lend)).setCell ⟨gL, k * 10 + 4, none⟩ (.int .i64 l.borrow)).setCell ⟨gL, k * 10 + 5, none⟩ (.int .i64 l.queues)).setCell ⟨gL, k * 10 + 6, none⟩ (.int .i64 l.hand)).setCell ⟨gL, k * 10 + 7, none⟩ (.int .i64 l.length)).setCell ⟨gL, k * 10 + 8, none⟩ (.int .i64 l.wait)).setCell ⟨gL, k * 10 + 9, none⟩ (.int .i64 l.guess)).drew gd 25 #[.int .i64 y0, .int .i64 y1, .int .i64 y2, .int .i64 y3, .slice (some ⟨gL, 0, none⟩) p fL, .slice (some ⟨gS, 0, none⟩) r fS] ∧ Wr ((((((((((wr.setCell ⟨gL, k * 10, none⟩ (.string l.name)).setCell ⟨gL, k * 10 + 1, none⟩ (.int .i64 l.kind)).setCell ⟨gL, k * 10 + 2, none⟩ (.int .i64 l.shares)).setCell ⟨gL, k * 10 + 3, none⟩ (.int .i64 l.lend)).setCell ⟨gL, k * 10 + 4, none⟩ (.int .i64 l.borrow)).setCell ⟨gL, k * 10 + 5, none⟩ (.int .i64 l.queues)).setCell ⟨gL, k * 10 + 6, none⟩ (.int .i64 l.hand)).setCell ⟨gL, k * 10 + 7, none⟩ (.int .i64 l.length)).setCell ⟨gL, k * 10 + 8, none⟩ (.int .i64 l.wait)).setCell ⟨gL, k * 10 + 9, none⟩ (.int .i64 l.guess)).drew gL 40 10 p (k + 1) (lvF L2.reverse) ∧ Wr ((((((((((wr.setCell ⟨gL, k * 10, none⟩ (.string l.name)).setCell ⟨gL, k * 10 + 1, none⟩ (.int .i64 l.kind)).setCell ⟨gL, k * 10 + 2, none⟩ (.int .i64 l.shares)).setCell ⟨gL, k * 10 + 3, none⟩ (.int .i64 l.lend)).setCell ⟨gL, k * 10 + 4, none⟩ (.int .i64 l.borrow)).setCell ⟨gL, k * 10 + 5, none⟩ (.int .i64 l.queues)).setCell ⟨gL, k * 10 + 6, none⟩ (.int .i64 l.hand)).setCell ⟨gL, k * 10 + 7, none⟩ (.int .i64 l.length)).setCell ⟨gL, k * 10 + 8, none⟩ (.int .i64 l.wait)).setCell ⟨gL, k * 10 + 9, none⟩ (.int .i64 l.guess)).drew gS 46 5 r 0 F)) := ⟨fun F => HNX.out _ (kept_drew P10.2) P10.1.drew F⟩
        first
          | exact ⟨k + 1, HK.out, by go_num, GO⟩
          | ((repeat apply Exists.intro); exact ⟨⟨k + 1, HK.out, by go_num, GO⟩, rfl⟩)
          | (refine ⟨⟨k + 1, HK.out, by go_num, GO⟩, ?_⟩; have := HK.out; simp [intOf]; omega)
      · obtain rfl : k = p := by omega
        have HI := hI.out
        clear hI HLC
        obtain ⟨T, hT, hT2⟩ : ∃ T : Nat, IntKind.u64.wrap turn = (T : Int) ∧ T < 18446744073709551616 := ⟨(IntKind.u64.wrap turn).toNat, by rw [IntKind.wrap_u64]; omega, by rw [IntKind.wrap_u64]; omega⟩
        obtain ⟨t, ht⟩ : ∃ t, t = T % r := ⟨_, rfl⟩
        have tr : t < r := by rw [ht]; exact Nat.mod_lt _ r0
        have v2 : IntKind.u64.wrap (r : Int) = (r : Int) := by rw [IntKind.wrap_u64]; omega
        have v3 : (T : Int).tmod (r : Int) = (t : Int) := by rw [ht]; exact (Int.ofNat_tmod _ _).symm
        have v4 : IntKind.i64.wrap (t : Int) = (t : Int) := by rw [IntKind.wrap_i64]; omega
        have v0 : ((r : Int) == 0) = false := by simp; omega
        have rn : ¬ r = 0 := by omega
        have v7 : IntKind.u64.wrap (t : Int) = (t : Int) := by rw [IntKind.wrap_u64]; omega
        have HTR : Hd (t < S2.length ∧ t < V5.length) := ⟨by rw [← HP.out.2]; exact tr, by rw [HSC.out.1, ← HP.out.2]; exact tr⟩
        clear ht
        have HI2 := HI (scF (rotL S2 t) (rotL V5 t))
        go_wp2_with fail
        go_loopw [9] (fun s9 wr => ∃ i : Nat, i ≤ r ∧ s9 = .int .i64 i ∧ Hd (Below w.heap.size w wr ∧ Below w5.heap.size w5 wr ∧ Blk wr gc 25 #[.int .i64 y0, .int .i64 y1, .int .i64 y2, .int .i64 y3, .slice (some ⟨bB, oB, none⟩) k dL, .slice (some ⟨sB, oS, none⟩) r dS] ∧ Blk wr gd 25 #[.int .i64 y0, .int .i64 y1, .int .i64 y2, .int .i64 y3, .slice (some ⟨gL, 0, none⟩) k fL, .slice (some ⟨gS, 0, none⟩) r fS] ∧ Wr wr gL 40 10 k k (lvF L2.reverse) ∧ Wr wr gS 46 5 r i (scF (rotL S2 t) (rotL V5 t)))) (fun s9 _ => r - (intOf s9).toNat)
        case atStart => exact ⟨0, Nat.zero_le _, rfl, ⟨HI2⟩⟩
        case round =>
          obtain ⟨i, hi, rfl, hI⟩ := hrel
          clear HI HI2
          by_cases hlt2 : i < r
          · obtain ⟨j1, j2, j3, j4, j5, j6⟩ := hI.out
            obtain ⟨q, hq⟩ : ∃ q, q = rotI r t i := ⟨_, rfl⟩
            have qr : q < r := by rw [hq]; exact rotI_lt hlt2
            have v5 : IntKind.i64.wrap ((i : Int) + (t : Int)) = (i : Int) + (t : Int) := by rw [IntKind.wrap_i64]; omega
            have v6 : ((i : Int) + (t : Int)).tmod (r : Int) = (q : Int) := by
              rw [hq]; unfold rotI
              rw [show (i : Int) + (t : Int) = ((i + t : Nat) : Int) by omega]
              exact (Int.ofNat_tmod _ _).symm
            have v8 : IntKind.i64.wrap (q : Int) = (q : Int) := by rw [IntKind.wrap_i64]; omega
            have hqS : q < S2.length := by rw [← HP.out.2]; exact qr
            have hqV : q < V5.length := by rw [HSC.out.1]; exact hqS
            have cs := HSC.out.2.1 wr j2 q hqS hqV
            have z0 : wr.cell? ⟨sB, oS + q * 5, none⟩ = some (.string S2[q].name) := cs 0 (by decide)
            have z1 : wr.cell? ⟨sB, oS + q * 5 + 1, none⟩ = some (.string S2[q].level) := cs 1 (by decide)
            have z2 : wr.cell? ⟨sB, oS + q * 5 + 2, none⟩ = some (.int .i64 S2[q].rank) := cs 2 (by decide)
            have z3 : wr.cell? ⟨sB, oS + q * 5 + 3, none⟩ = some (.int .i64 S2[q].way) := cs 3 (by decide)
            have z4 : wr.cell? ⟨sB, oS + q * 5 + 4, none⟩ = some V5[q] := cs 4 (by decide)
            have HRV : Hd (scF (rotL S2 t) (rotL V5 t) i = scC S2[q] V5[q]) := ⟨by
              have e1 := rotL_at S2 t i HTR.out.1 (by rw [← HP.out.2]; exact hlt2)
              have e2 := rotL_at V5 t i HTR.out.2 (by rw [HSC.out.1, ← HP.out.2]; exact hlt2)
              rw [scF_at (by rw [rotL_len _ _ HTR.out.1, ← HP.out.2]; exact hlt2) (by rw [rotL_len _ _ HTR.out.2, HSC.out.1, ← HP.out.2]; exact hlt2), e1, e2]
              congr 2
              · rw [hq, ← HP.out.2]
              · rw [hq, HSC.out.1, ← HP.out.2]⟩
            obtain ⟨ra, rc, er, -⟩ := HSC.out.2.2 wr j2 q hqS hqV
            have c4 := j3.cellv (v := .slice (some ⟨sB, oS, none⟩) r dS) 5 rfl
            have d4 := j4.cellv (v := .slice (some ⟨gS, 0, none⟩) r fS) 5 rfl
            obtain ⟨⟨ra0, m0⟩, n0⟩ := j6.room (q := i * 5) (by omega)
            obtain ⟨⟨ra1, m1⟩, n1⟩ := j6.room (q := i * 5 + 1) (by omega)
            obtain ⟨⟨ra2, m2⟩, n2⟩ := j6.room (q := i * 5 + 2) (by omega)
            obtain ⟨⟨ra3, m3⟩, n3⟩ := j6.room (q := i * 5 + 3) (by omega)
            obtain ⟨⟨ra4, m4⟩, n4⟩ := j6.room (q := i * 5 + 4) (by omega)
            have HK : Hd (i < r) := ⟨hlt2⟩
            have HNX : Hd (∀ W, Kept (fun b => b = gS) wr W → Wr W gS 46 5 r (i + 1) (scF (rotL S2 t) (rotL V5 t)) → (Below w.heap.size w W ∧ Below w5.heap.size w5 W ∧ Blk W gc 25 #[.int .i64 y0, .int .i64 y1, .int .i64 y2, .int .i64 y3, .slice (some ⟨bB, oB, none⟩) k dL, .slice (some ⟨sB, oS, none⟩) r dS] ∧ Blk W gd 25 #[.int .i64 y0, .int .i64 y1, .int .i64 y2, .int .i64 y3, .slice (some ⟨gL, 0, none⟩) k fL, .slice (some ⟨gS, 0, none⟩) r fS] ∧ Wr W gL 40 10 k k (lvF L2.reverse) ∧ Wr W gS 46 5 r (i + 1) (scF (rotL S2 t) (rotL V5 t)))) := ⟨fun W kp wl => by
              obtain ⟨i1, i2, i3, i4, i5, i6⟩ := hI.out
              have hg1 : w.heap.size ≤ gS := Nat.le_trans HBG.out.2.2.2 HBG.out.2.1
              exact ⟨i1.trans (kp.below i1.size (fun j hj => by rw [hj]; exact hg1)), i2.trans (kp.below i2.size (fun j hj => by rw [hj]; exact HBG.out.2.1)), i3.kept kp (by have := HBG.out; omega), i4.kept kp (by have := HLT.out; omega), i5.kept kp (fun e => HSL.out e.symm), wl⟩⟩
            generalize hvq : V5[q] = vq at *
            subst er
            have P5 := j6.put5 hlt2 (.string S2[q].name) (.string S2[q].level) (.int .i64 S2[q].rank) (.int .i64 S2[q].way) (.slice ra S2[q].rules.length rc) (by rw [HRV.out]; rfl)
            clear j1 j2 j3 j4 j5 j6 cs HRV hI hvq hq hqV
            generalize S2[q] = l at *
            generalize l.rules.length = nr at *
            have i1 : (i : Int) < (r : Int) := by omega
            have i2 : (q : Int) < (r : Int) := by omega
            go_upto_region 15 with fail
            refine region_tail 18 (by kernel_rfl) ?_
            simp only [List.take_succ_cons, List.take_zero, List.drop_succ_cons, List.drop_zero]
            repeat still_step
            refine wpStill_nil ?_
            go_wp2_with fail
            have GO : Hd (Below w.heap.size w (((((wr.setCell ⟨gS, i * 5, none⟩ (.string l.name)).setCell ⟨gS, i * 5 + 1, none⟩ (.string l.level)).setCell ⟨gS, i * 5 + 2, none⟩ (.int .i64 l.rank)).setCell ⟨gS, i * 5 + 3, none⟩ (.int .i64 l.way)).setCell ⟨gS, i * 5 + 4, none⟩ ( .slice ra nr rc)).drew ∧ Below w5.heap.size w5 (((((wr.setCell ⟨gS, i * 5, none⟩ (.string l.name)).setCell ⟨gS, i * 5 + 1, none⟩ (.string l.level)).setCell ⟨gS, i * 5 + 2, none⟩ (.int .i64 l.rank)).setCell ⟨gS, i * 5 + 3, none⟩ (.int .i64 l.way)).setCell ⟨gS, i * 5 + 4, none⟩ ( .slice ra nr rc)).drew ∧ Blk (((((wr.setCell ⟨gS, i * 5, none⟩ (.string l.name)).setCell ⟨gS, i * 5 + 1, none⟩ (.string l.level)).setCell ⟨gS, i * 5 + 2, none⟩ (.int .i64 l.rank)).setCell ⟨gS, i * 5 + 3, none⟩ (.int .i64 l.way)).setCell ⟨gS, i * 5 + 4, none⟩ ( .slice ra nr rc)).drew gc 25 #[.int .i64 y0, .int .i64 y1, .int .i64 y2, .int .i64 y3, .slice (some ⟨bB, oB, none⟩) k dL, .slice (some ⟨sB, oS, none⟩) r dS] ∧ Blk (((((wr.setCell ⟨gS, i * 5, none⟩ (.string l.name)).setCell ⟨gS, i * 5 + 1, none⟩ (.string l.level)).setCell ⟨gS, i * 5 + 2, none⟩ (.int .i64 l.rank)).setCell ⟨gS, i * 5 + 3, none⟩ (.int .i64 l.way)).setCell ⟨gS, i * 5 + 4, none⟩ ( .slice ra nr rc)).drew gd 25 #[.int .i64 y0, .int .i64 y1, .int .i64 y2, .int .i64 y3, .slice (some ⟨gL, 0, none⟩) k fL, .slice (some ⟨gS, 0, none⟩) r fS] ∧ Wr (((((wr.setCell ⟨gS, i * 5, none⟩ (.string l.name)).setCell ⟨gS, i * 5 + 1, none⟩ (.string l.level)).setCell ⟨gS, i * 5 + 2, none⟩ (.int .i64 l.rank)).setCell ⟨gS, i * 5 + 3, none⟩ (.int .i64 l.way)).setCell ⟨gS, i * 5 + 4, none⟩ ( .slice ra nr rc)).drew gL 40 10 k k (lvF L2.reverse) ∧ Wr (((((wr.setCell ⟨gS, i * 5, none⟩ (.string l.name)).setCell ⟨gS, i * 5 + 1, none⟩ (.string l.level)).setCell ⟨gS, i * 5 + 2, none⟩ (.int .i64 l.rank)).setCell ⟨gS, i * 5 + 3, none⟩ (.int .i64 l.way)).setCell ⟨gS, i * 5 + 4, none⟩ ( .slice ra nr rc)).drew gS 46 5 r (i + 1) (scF (rotL S2 t) (rotL V5 t))) := ⟨HNX.out _ (kept_drew P5.2) P5.1.drew⟩
            first
              | exact ⟨i + 1, HK.out, by go_num, GO⟩
              | ((repeat apply Exists.intro); exact ⟨⟨i + 1, HK.out, by go_num, GO⟩, rfl⟩)
              | (refine ⟨⟨i + 1, HK.out, by go_num, GO⟩, ?_⟩; have := HK.out; simp [intOf]; omega)
          · obtain rfl : i = r := by omega
            obtain ⟨j1, j2, j3, j4, j5, j6⟩ := hI.out
            have lr : L2.reverse.length = k := by rw [List.length_reverse]; exact HP.out.1.symm
            have ls : (rotL S2 t).length = i := by rw [rotL_len _ _ HTR.out.1]; exact HP.out.2.symm
            have lv : (rotL V5 t).length = i := by rw [rotL_len _ _ HTR.out.2, HSC.out.1]; exact HP.out.2.symm
            have CR : CfR wr (.agg #[.int .i64 y0, .int .i64 y1, .int .i64 y2, .int .i64 y3, .slice (some ⟨gL, 0, none⟩) k fL, .slice (some ⟨gS, 0, none⟩) i fS]) ⟨y0, y1, y2, y3, L2.reverse, rotL S2 t⟩ := by
              have fn := HF2.out.2.1.nm
              refine ⟨⟨by show L2.reverse.length ≤ _; rw [lr]; omega, by show (rotL S2 t).length ≤ _; rw [ls]; omega⟩, ⟨fun l hl => fn.1 l (List.mem_reverse.1 hl), fun l hl => fn.2 l ((rot_perm S2 t).mem_iff.1 hl)⟩, some ⟨gL, 0, none⟩, fL, some ⟨gS, 0, none⟩, fS, rotL V5 t, ?_, ?_, ?_, j5.lvr lr.symm, lv.trans ls.symm, j6.scr ls.symm, fun a ha ha' => ?_⟩
              · show _ = Value.agg #[_, _, _, _, .slice (some ⟨gL, 0, none⟩) L2.reverse.length fL, .slice (some ⟨gS, 0, none⟩) (rotL S2 t).length fS]
                rw [lr, ls]
              · show L2.reverse.length ≤ _; rw [lr]; exact hfL
              · show (rotL S2 t).length ≤ _; rw [ls]; exact hfS
              · have ha2 : a < i := by rw [← ls]; exact ha
                have e1 := rotL_at S2 t a HTR.out.1 (by rw [← HP.out.2]; exact ha2)
                have e2 := rotL_at V5 t a HTR.out.2 (by rw [HSC.out.1, ← HP.out.2]; exact ha2)
                have hq1 : rotI S2.length t a < S2.length := rotI_lt (by rw [← HP.out.2]; exact ha2)
                have := HSC.out.2.2 wr j2 (rotI S2.length t a) hq1 (by rw [HSC.out.1]; exact hq1)
                show RlR wr (rotL V5 t)[a] ((rotL S2 t)[a]'ha).rules
                rw [e1, e2]
                have e3 : rotI V5.length t a = rotI S2.length t a := by rw [HSC.out.1]
                simp only [e3]
                exact this
            have DR : Below wr.heap.size wr wr.drew := ⟨rfl, rfl, rfl, Nat.le_refl _, fun _ _ => rfl⟩
            have PT := @passes_turn ⟨y0, y1, y2, y3, L2, S2⟩ L2.reverse (rotL S2 t) (List.reverse_perm L2) (rot_perm S2 t)
            have C1 := check_ok _ ⟨y0, y1, y2, y3, L2, S2⟩ wr.drew (HD.out wr.drew (j2.trans (DR.mono j2.size)))
            have C2 : Hd (∀ W, Below wr.heap.size wr W → Calls Tryz.prog 10 #[.agg #[.int .i64 y0, .int .i64 y1, .int .i64 y2, .int .i64 y3, .slice (some ⟨gL, 0, none⟩) k fL, .slice (some ⟨gS, 0, none⟩) i fS]] W fun e w' => e = .returned (errV (chk ⟨y0, y1, y2, y3, L2.reverse, rotL S2 t⟩)) ∧ Below W.heap.size W w') := ⟨fun W b => check_ok _ _ W (CR.carry b)⟩
            have EQ : Hd (((chk ⟨y0, y1, y2, y3, L2, S2⟩).1 = 0) = ((chk ⟨y0, y1, y2, y3, L2.reverse, rotL S2 t⟩).1 = 0)) := ⟨propext (by rw [chk_zero, chk_zero]; exact PT.symm)⟩
            have T0 : Tw gc gd #[.int .i64 y0, .int .i64 y1, .int .i64 y2, .int .i64 y3, .slice (some ⟨bB, oB, none⟩) k dL, .slice (some ⟨sB, oS, none⟩) i dS] #[.int .i64 y0, .int .i64 y1, .int .i64 y2, .int .i64 y3, .slice (some ⟨gL, 0, none⟩) k fL, .slice (some ⟨gS, 0, none⟩) i fS] wr.drew := ⟨j3, j4⟩
            have B0 : Below w.heap.size w wr.drew := j1.trans (DR.mono j1.size)
            have X0 : Below wr.heap.size wr wr.drew := DR
            clear CR DR j1 j2 j3 j4 j5 j6 hI PT HD HSC
            have E1 : ∃ q1 : Value, q1 = errV (chk ⟨y0, y1, y2, y3, L2, S2⟩) ∧ ((q1 = .nilIface ∧ (chk ⟨y0, y1, y2, y3, L2, S2⟩).1 = 0) ∨ ∃ a b, q1 = .iface 71 (.agg #[.int .i64 0, .string a, .iface 35 (.int .i64 b)]) ∧ (chk ⟨y0, y1, y2, y3, L2, S2⟩).1 ≠ 0) := errV_two _
            have E2 : ∃ q1 : Value, q1 = errV (chk ⟨y0, y1, y2, y3, L2.reverse, rotL S2 t⟩) ∧ ((q1 = .nilIface ∧ (chk ⟨y0, y1, y2, y3, L2.reverse, rotL S2 t⟩).1 = 0) ∨ ∃ a b, q1 = .iface 71 (.agg #[.int .i64 0, .string a, .iface 35 (.int .i64 b)]) ∧ (chk ⟨y0, y1, y2, y3, L2.reverse, rotL S2 t⟩).1 ≠ 0) := errV_two _
            obtain ⟨q1, e1, f1⟩ := E1
            obtain ⟨q2, e2, f2⟩ := E2
            rw [← e1] at C1
            rw [← e2] at C2
            clear e1 e2
            have Q12 : (q1 = .nilIface ∧ q2 = .nilIface) ∨ ∃ a b c d, q1 = .iface 71 (.agg #[.int .i64 0, .string a, .iface 35 (.int .i64 b)]) ∧ q2 = .iface 71 (.agg #[.int .i64 0, .string c, .iface 35 (.int .i64 d)]) := by
              have := EQ.out
              rcases f1 with ⟨g1, g2⟩ | ⟨a, b, g1, g2⟩ <;> rcases f2 with ⟨h1, h2⟩ | ⟨c, d, h1, h2⟩
              · exact .inl ⟨g1, h1⟩
              · exact absurd (this ▸ g2) h2
              · exact absurd (this.symm ▸ h2) g2
              · exact .inr ⟨a, b, c, d, g1, h1⟩
            clear f1 f2 EQ
            go_upto_region 16 with fail
            refine AnyG.start (T := Tw gc gd #[.int .i64 y0, .int .i64 y1, .int .i64 y2, .int .i64 y3, .slice (some ⟨bB, oB, none⟩) k dL, .slice (some ⟨sB, oS, none⟩) i dS] #[.int .i64 y0, .int .i64 y1, .int .i64 y2, .int .i64 y3, .slice (some ⟨gL, 0, none⟩) k fL, .slice (some ⟨gS, 0, none⟩) i fS]) (U := fun _ => True) (j0 := 100) (by kernel_rfl) ?_
            generalize wr.drew = w0 at *
            rcases Q12 with ⟨rfl, rfl⟩ | ⟨za, zb, zc, zd, rfl, rfl⟩
            · refine AnyG.takeAt 0 65 (v := ?_) rfl rfl (by kernel_rfl) (by kernel_rfl) (by kernel_rfl) (by decide) (fun _ _ _ h => h) ⟨T0, fun _ => trivial⟩ (by rfl) ?_ ?_
              rotate_left
              · intro w hSw
                have g0 := hSw.b1.cellv (v := .int .i64 y0) 0 rfl
                have g1 := hSw.b1.cellv (v := .int .i64 y1) 1 rfl
                have g2 := hSw.b1.cellv (v := .int .i64 y2) 2 rfl
                have g3 := hSw.b1.cellv (v := .int .i64 y3) 3 rfl
                have g4 := hSw.b1.cellv (v := .slice (some ⟨bB, oB, none⟩) k dL) 4 rfl
                have g5 := hSw.b1.cellv (v := .slice (some ⟨sB, oS, none⟩) i dS) 5 rfl
                go_simp
                rfl
              simp only [List.setIfInBounds_toArray, List.set_cons_zero, List.set_cons_succ]
              refine AnyG.takeAt 3 68 (v := ?_) rfl rfl (by kernel_rfl) (by kernel_rfl) (by kernel_rfl) (by decide) (fun _ _ _ h => h) ⟨T0, fun _ => trivial⟩ (by rfl) ?_ ?_
              rotate_left
              · intro w hSw
                have g0 := hSw.b2.cellv (v := .int .i64 y0) 0 rfl
                have g1 := hSw.b2.cellv (v := .int .i64 y1) 1 rfl
                have g2 := hSw.b2.cellv (v := .int .i64 y2) 2 rfl
                have g3 := hSw.b2.cellv (v := .int .i64 y3) 3 rfl
                have g4 := hSw.b2.cellv (v := .slice (some ⟨gL, 0, none⟩) k fL) 4 rfl
                have g5 := hSw.b2.cellv (v := .slice (some ⟨gS, 0, none⟩) i fS) 5 rfl
                go_simp
                rfl
              simp only [List.setIfInBounds_toArray, List.set_cons_zero, List.set_cons_succ]
              refine AnyG.ready (rs := [1]) (by kernel_rfl) (by simp) ?_
              refine AllG.cons rfl (fun K hK => ?_) AllG.nil
              go_simp
              refine (C1).mono ?_
              rintro e wk1 ⟨rfl, b1⟩
              have Ak1 := T0.kept (Kept.of_below b1 (fun _ => False)) id
              have Bk1 : Below w.heap.size w wk1 := B0.trans (b1.mono B0.size)
              refine hK.out _ _ ⟨Ak1, fun _ => trivial⟩ ?_
              have b1x := b1
              clear hK K b1 T0 B0
              have X1 : Below wr.heap.size wr wk1 := X0.trans (b1x.mono X0.size)
              refine AnyG.takeAt 2 67 (v := ?_) rfl rfl (by kernel_rfl) (by kernel_rfl) (by kernel_rfl) (by decide) (fun _ _ _ h => h) ⟨Ak1, fun _ => trivial⟩ (by rfl) ?_ ?_
              rotate_left
              · intro w hSw
                go_simp
                rfl
              simp only [List.setIfInBounds_toArray, List.set_cons_zero, List.set_cons_succ]
              refine AnyG.ready (rs := [4]) (by kernel_rfl) (by simp) ?_
              refine AllG.cons rfl (fun K hK => ?_) AllG.nil
              go_simp
              refine (C2.out _ X1).mono ?_
              rintro e wk2 ⟨rfl, b2⟩
              have Ak2 := Ak1.kept (Kept.of_below b2 (fun _ => False)) id
              have Bk2 : Below w.heap.size w wk2 := Bk1.trans (b2.mono Bk1.size)
              refine hK.out _ _ ⟨Ak2, fun _ => trivial⟩ ?_
              clear hK K b2 Ak1 Bk1
              refine AnyG.takeAt 5 70 (v := ?_) rfl rfl (by kernel_rfl) (by kernel_rfl) (by kernel_rfl) (by decide) (fun _ _ _ h => h) ⟨Ak2, fun _ => trivial⟩ (by rfl) ?_ ?_
              rotate_left
              · intro w hSw
                go_simp
                rfl
              simp only [List.setIfInBounds_toArray, List.set_cons_zero, List.set_cons_succ]
              refine AnyG.takeAt 6 71 (v := ?_) rfl rfl (by kernel_rfl) (by kernel_rfl) (by kernel_rfl) (by decide) (fun _ _ _ h => h) ⟨Ak2, fun _ => trivial⟩ (by rfl) ?_ ?_
              rotate_left
              · intro w hSw
                go_simp
                rfl
              simp only [List.setIfInBounds_toArray, List.set_cons_zero, List.set_cons_succ]
              refine AnyG.takeAt 7 4 (v := ?_) rfl rfl (by kernel_rfl) (by kernel_rfl) (by kernel_rfl) (by decide) (fun _ _ _ h => h) ⟨Ak2, fun _ => trivial⟩ (by rfl) ?_ ?_
              rotate_left
              · intro w hSw
                go_simp
                rfl
              simp only [List.setIfInBounds_toArray, List.set_cons_zero, List.set_cons_succ]
              refine AnyG.done (by kernel_rfl) ?_ _
              go_wp2_with fail
              go_ret
              exact ⟨rfl, Bk2⟩
            · refine AnyG.takeAt 0 65 (v := ?_) rfl rfl (by kernel_rfl) (by kernel_rfl) (by kernel_rfl) (by decide) (fun _ _ _ h => h) ⟨T0, fun _ => trivial⟩ (by rfl) ?_ ?_
              rotate_left
              · intro w hSw
                have g0 := hSw.b1.cellv (v := .int .i64 y0) 0 rfl
                have g1 := hSw.b1.cellv (v := .int .i64 y1) 1 rfl
                have g2 := hSw.b1.cellv (v := .int .i64 y2) 2 rfl
                have g3 := hSw.b1.cellv (v := .int .i64 y3) 3 rfl
                have g4 := hSw.b1.cellv (v := .slice (some ⟨bB, oB, none⟩) k dL) 4 rfl
                have g5 := hSw.b1.cellv (v := .slice (some ⟨sB, oS, none⟩) i dS) 5 rfl
                go_simp
                rfl
              simp only [List.setIfInBounds_toArray, List.set_cons_zero, List.set_cons_succ]
              refine AnyG.takeAt 3 68 (v := ?_) rfl rfl (by kernel_rfl) (by kernel_rfl) (by kernel_rfl) (by decide) (fun _ _ _ h => h) ⟨T0, fun _ => trivial⟩ (by rfl) ?_ ?_
              rotate_left
              · intro w hSw
                have g0 := hSw.b2.cellv (v := .int .i64 y0) 0 rfl
                have g1 := hSw.b2.cellv (v := .int .i64 y1) 1 rfl
                have g2 := hSw.b2.cellv (v := .int .i64 y2) 2 rfl
                have g3 := hSw.b2.cellv (v := .int .i64 y3) 3 rfl
                have g4 := hSw.b2.cellv (v := .slice (some ⟨gL, 0, none⟩) k fL) 4 rfl
                have g5 := hSw.b2.cellv (v := .slice (some ⟨gS, 0, none⟩) i fS) 5 rfl
                go_simp
                rfl
              simp only [List.setIfInBounds_toArray, List.set_cons_zero, List.set_cons_succ]
              refine AnyG.ready (rs := [1]) (by kernel_rfl) (by simp) ?_
              refine AllG.cons rfl (fun K hK => ?_) AllG.nil
              go_simp
              refine (C1).mono ?_
              rintro e wk1 ⟨rfl, b1⟩
              have Ak1 := T0.kept (Kept.of_below b1 (fun _ => False)) id
              have Bk1 : Below w.heap.size w wk1 := B0.trans (b1.mono B0.size)
              refine hK.out _ _ ⟨Ak1, fun _ => trivial⟩ ?_
              have b1x := b1
              clear hK K b1 T0 B0
              have X1 : Below wr.heap.size wr wk1 := X0.trans (b1x.mono X0.size)
              refine AnyG.takeAt 2 67 (v := ?_) rfl rfl (by kernel_rfl) (by kernel_rfl) (by kernel_rfl) (by decide) (fun _ _ _ h => h) ⟨Ak1, fun _ => trivial⟩ (by rfl) ?_ ?_
              rotate_left
              · intro w hSw
                go_simp
                rfl
              simp only [List.setIfInBounds_toArray, List.set_cons_zero, List.set_cons_succ]
              refine AnyG.ready (rs := [4]) (by kernel_rfl) (by simp) ?_
              refine AllG.cons rfl (fun K hK => ?_) AllG.nil
              go_simp
              refine (C2.out _ X1).mono ?_
              rintro e wk2 ⟨rfl, b2⟩
              have Ak2 := Ak1.kept (Kept.of_below b2 (fun _ => False)) id
              have Bk2 : Below w.heap.size w wk2 := Bk1.trans (b2.mono Bk1.size)
              refine hK.out _ _ ⟨Ak2, fun _ => trivial⟩ ?_
              clear hK K b2 Ak1 Bk1
              refine AnyG.takeAt 5 70 (v := ?_) rfl rfl (by kernel_rfl) (by kernel_rfl) (by kernel_rfl) (by decide) (fun _ _ _ h => h) ⟨Ak2, fun _ => trivial⟩ (by rfl) ?_ ?_
              rotate_left
              · intro w hSw
                go_simp
                rfl
              simp only [List.setIfInBounds_toArray, List.set_cons_zero, List.set_cons_succ]
              refine AnyG.takeAt 6 71 (v := ?_) rfl rfl (by kernel_rfl) (by kernel_rfl) (by kernel_rfl) (by decide) (fun _ _ _ h => h) ⟨Ak2, fun _ => trivial⟩ (by rfl) ?_ ?_
              rotate_left
              · intro w hSw
                go_simp
                rfl
              simp only [List.setIfInBounds_toArray, List.set_cons_zero, List.set_cons_succ]
              refine AnyG.takeAt 7 4 (v := ?_) rfl rfl (by kernel_rfl) (by kernel_rfl) (by kernel_rfl) (by decide) (fun _ _ _ h => h) ⟨Ak2, fun _ => trivial⟩ (by rfl) ?_ ?_
              rotate_left
              · intro w hSw
                go_simp
                rfl
              simp only [List.setIfInBounds_toArray, List.set_cons_zero, List.set_cons_succ]
              refine AnyG.done (by kernel_rfl) ?_ _
              go_wp2_with fail
              go_ret
              exact ⟨rfl, Bk2⟩

end Go.Proofs.YtlkoaldekmdcoaaGreatDoor
