/-
  What 'table.Make' answers.
-/
import Derived.Test.YtijjpblmnlednaaGreatDoorE39
import Derived.Test.YtijjpblmnlednaaGreatDoorE26
import Derived.Test.YtijjpblmnlednaaGreatDoorE40
import Derived.Test.YtijjpblmnlednaaGreatDoorE41
import Derived.StillTailTactics
namespace Go.Proofs.YtijjpblmnlednaaGreatDoor
open Go.RowKit
/-- What Make answers. -/
structure Mk (w : World) (C : Cf) (e : Ending) (w' : World) : Prop where
  ex : ∃ vL vS, e = .returned (.tuple #[.agg #[.int .i64 (mkC C).total, .int .i64 (mkC C).period, .int .i64 (mkC C).perSeat, .int .i64 (mkC C).most, vL, vS, .int .u64 (mkD C : Nat)], errV (mkE C)]) ∧ CfR w' (.agg #[.int .i64 (mkC C).total, .int .i64 (mkC C).period, .int .i64 (mkC C).perSeat, .int .i64 (mkC C).most, vL, vS]) (mkC C)
  bel : Below w.heap.size w w'

theorem res10 (tmps : Array Value) (w : World) (r0 : Nat) (v0 v1 v2 v3 v4 v5 v6 q : Value) (ht : tmps[2]?.getD undef = .pointer (some ⟨r0, 0, none⟩)) (hq : tmps[3]?.getD undef = q) (h : Blk w r0 34 #[v0, v1, v2, v3, v4, v5, v6]) :
    (results Tryz.f7 tmps).run Tryz.prog w = .ok (.tuple #[.agg #[v0, v1, v2, v3, v4, v5, v6], q]) w := by
  have c0 := h.cellv 0 rfl
  have c1 := h.cellv 1 rfl
  have c2 := h.cellv 2 rfl
  have c3 := h.cellv 3 rfl
  have c4 := h.cellv 4 rfl
  have c5 := h.cellv 5 rfl
  have c6 := h.cellv 6 rfl
  simp at c0 c1 c2 c3 c4 c5 c6
  simp [results, Tryz.results7, go_sem, ht, hq, c0, c1, c2, c3, c4, c5, c6]
theorem seven_set {w : World} {g : Nat} {z0 z1 z2 z3 z4 z5 z6 : Value} (h : Blk w g 34 #[z0, z1, z2, z3, z4, z5, z6]) (v0 v1 v2 v3 v4 v5 v6 : Value) :
    Blk (((((((w.setCell ⟨g, 0, none⟩ v0).setCell ⟨g, 1, none⟩ v1).setCell ⟨g, 2, none⟩ v2).setCell ⟨g, 3, none⟩ v3).setCell ⟨g, 4, none⟩ v4).setCell ⟨g, 5, none⟩ v5).setCell ⟨g, 6, none⟩ v6) g 34 #[v0, v1, v2, v3, v4, v5, v6]
    ∧ Kept (fun k => k = g) w (((((((w.setCell ⟨g, 0, none⟩ v0).setCell ⟨g, 1, none⟩ v1).setCell ⟨g, 2, none⟩ v2).setCell ⟨g, 3, none⟩ v3).setCell ⟨g, 4, none⟩ v4).setCell ⟨g, 5, none⟩ v5).setCell ⟨g, 6, none⟩ v6) := by
  refine ⟨?_, (((((((Kept.refl (fun k => k = g) w).setCell _ _ (.inl rfl)).setCell _ _ (.inl rfl)).setCell _ _ (.inl rfl)).setCell _ _ (.inl rfl)).setCell _ _ (.inl rfl)).setCell _ _ (.inl rfl)).setCell _ _ (.inl rfl)⟩
  have := ((((((h.set 0 v0).set 1 v1).set 2 v2).set 3 v3).set 4 v4).set 5 v5).set 6 v6
  simpa using this

theorem Blk.drawn {w : World} {b t : Nat} {cs : Array Value} (h : Blk w b t cs) : Blk w.drew b t cs := h
theorem seven_setD {w : World} {g : Nat} {z0 z1 z2 z3 z4 z5 z6 : Value} (h : Blk w g 34 #[z0, z1, z2, z3, z4, z5, z6]) (v0 v1 v2 v3 v4 v5 v6 : Value) :
    Blk (((((((w.setCell ⟨g, 0, none⟩ v0).setCell ⟨g, 1, none⟩ v1).setCell ⟨g, 2, none⟩ v2).setCell ⟨g, 3, none⟩ v3).setCell ⟨g, 4, none⟩ v4).setCell ⟨g, 5, none⟩ v5).setCell ⟨g, 6, none⟩ v6).drew g 34 #[v0, v1, v2, v3, v4, v5, v6]
    ∧ Kept (fun k => k = g) w (((((((w.setCell ⟨g, 0, none⟩ v0).setCell ⟨g, 1, none⟩ v1).setCell ⟨g, 2, none⟩ v2).setCell ⟨g, 3, none⟩ v3).setCell ⟨g, 4, none⟩ v4).setCell ⟨g, 5, none⟩ v5).setCell ⟨g, 6, none⟩ v6).drew := by
  obtain ⟨h1, h2⟩ := seven_set h v0 v1 v2 v3 v4 v5 v6
  exact ⟨h1.drawn, h2.drew⟩

set_option maxRecDepth 20000 in
set_option maxHeartbeats 8000000 in
theorem make_ok (v : Value) (C : Cf) (w : World) (h : CfR w v C) (hb : Bnd 900 C) (hT : Tab w) : Calls Tryz.prog 7 #[v] w fun e w' => Mk w C e w' := by
  have HF : Hd (∀ W, Below w.heap.size w W → Calls Tryz.prog 10 #[v] W fun e w' => FCf W (fillC C) e w') := ⟨fun W b => fill_ok v C W (h.carry b) hb⟩
  have HFit : Hd (Fits (fillC C)) := ⟨fillC_fits h.fits hb (by omega)⟩
  have HB : Hd (Bnd 902 (fillC C)) := ⟨fillC_bnd hb⟩
  have HP : Hd (0 < (fillC C).levels.length ∧ 0 < (fillC C).schemas.length) := ⟨fillL_pos _, fillS_pos _⟩
  have HT : Hd (Tab w) := ⟨hT⟩
  obtain ⟨aL, cL, aS, cS, V, rfl, capL, capS, hL, hV, hS, hR⟩ := h.ex
  clear h hb hT capL capS hL hV hS hR
  have HD : Hd (mkE C = (if (chk (fillC C)).1 = 0 then (printE (tblC C), ⟨#[]⟩) else chk (fillC C)) ∧ mkC C = (if (mkE C).1 = 0 then tblC C else cf0) ∧ mkD C = (if (mkE C).1 = 0 then Fn.sum (outB (tblC C)) else 0)) := ⟨rfl, rfl, rfl⟩
  have HG : Hd (tblC C = ⟨(fillC C).total, (fillC C).period, (fillC C).perSeat, (fillC C).most, srtB ltL (fillC C).levels, srtB ltS (fillC C).schemas⟩) := ⟨rfl⟩
  have HPT : Hd (Passes (fillC C) → printE (tblC C) = if 65536 < (outB (tblC C)).size then 3 else 0) := ⟨fun h => printE_passes h.tbl⟩
  have HPS : Hd (printS (tblC C) = if printE (tblC C) = 0 then outB (tblC C) else ⟨#[]⟩) := ⟨rfl⟩
  generalize fillC C = D at *
  generalize C.levels.length = nL at *
  generalize C.schemas.length = nS at *
  generalize C.total = x0 at *
  generalize C.period = x1 at *
  generalize C.perSeat = x2 at *
  generalize C.most = x3 at *
  have B0 : Hd (Below w.heap.size w ((w.alloc (.cells #[.int .i64 x0, .int .i64 x1, .int .i64 x2, .int .i64 x3, .slice aL nL cL, .slice aS nS cS] 25)).alloc (.cells #[.int .i64 0, .int .i64 0, .int .i64 0, .int .i64 0, .slice none 0 0, .slice none 0 0, .int .u64 0] 34))) := ⟨((Below.refl _ _).alloc (Nat.le_refl _) _).alloc (by simp) _⟩
  have R0 : Hd (Blk ((w.alloc (.cells #[.int .i64 x0, .int .i64 x1, .int .i64 x2, .int .i64 x3, .slice aL nL cL, .slice aS nS cS] 25)).alloc (.cells #[.int .i64 0, .int .i64 0, .int .i64 0, .int .i64 0, .slice none 0 0, .slice none 0 0, .int .u64 0] 34)) (w.heap.size + 1) 34 #[.int .i64 0, .int .i64 0, .int .i64 0, .int .i64 0, .slice none 0 0, .slice none 0 0, .int .u64 0]) := ⟨alloc_new w _ 34 _⟩
  go_enter Tryz.func7, Tryz.ntmps7
  go_wp2_with fail
  generalize (w.alloc _).alloc _ = w0 at *
  go_at_call 10
  refine (HF.out w0 B0.out).mono ?_
  rintro e w1 ⟨⟨v1, rfl, hC⟩, b1⟩
  obtain ⟨vL, vS, V1, rfl, hLv, hSc⟩ := hC.ex
  obtain ⟨a1, c1, rfl, -, hr1⟩ := owns_read hLv
  obtain ⟨gL, cu1, rfl, -, -, -, -⟩ := hr1 HP.out.1
  obtain ⟨a2, c2, rfl, -, hr2⟩ := owns_read hSc.own
  obtain ⟨gS, cu2, rfl, -, -, -, -⟩ := hr2 HP.out.2
  clear hr1 hr2 HF
  have HC : Hd (CfW w0.heap.size w1 (.agg #[.int .i64 D.total, .int .i64 D.period, .int .i64 D.perSeat, .int .i64 D.most, .slice (some ⟨gL, 0, none⟩) D.levels.length c1, .slice (some ⟨gS, 0, none⟩) D.schemas.length c2]) D) := ⟨hC⟩
  have B1 : Hd (Below w.heap.size w w1) := ⟨B0.out.trans (b1.mono B0.out.size)⟩
  have R1 : Hd (Blk w1 (w.heap.size + 1) 34 #[.int .i64 0, .int .i64 0, .int .i64 0, .int .i64 0, .slice none 0 0, .slice none 0 0, .int .u64 0]) := ⟨R0.out.kept (Kept.of_below b1 (fun _ => False)) id⟩
  have Z0 : Hd (w0.heap.size ≤ w1.heap.size ∧ w.heap.size + 1 < w0.heap.size) := ⟨b1.size, R0.out.lt⟩
  clear hC hLv hSc b1 B0 R0
  go_wp2_with fail
  have F2 : Hd (Blk (w1.alloc (.cells #[.int .i64 D.total, .int .i64 D.period, .int .i64 D.perSeat, .int .i64 D.most, .slice (some ⟨gL, 0, none⟩) D.levels.length c1, .slice (some ⟨gS, 0, none⟩) D.schemas.length c2] 25)) w1.heap.size 25 #[.int .i64 D.total, .int .i64 D.period, .int .i64 D.perSeat, .int .i64 D.most, .slice (some ⟨gL, 0, none⟩) D.levels.length c1, .slice (some ⟨gS, 0, none⟩) D.schemas.length c2]) := ⟨Blk.new w1 25 _⟩
  have A2 : Hd (Below w1.heap.size w1 (w1.alloc (.cells #[.int .i64 D.total, .int .i64 D.period, .int .i64 D.perSeat, .int .i64 D.most, .slice (some ⟨gL, 0, none⟩) D.levels.length c1, .slice (some ⟨gS, 0, none⟩) D.schemas.length c2] 25))) := ⟨alloc_below w1 _⟩
  generalize w1.alloc _ = w2 at *
  generalize hgF : w1.heap.size = gF at *
  have HC2 := HC.out.grown (by rw [hgF]; exact A2.out)
  go_at_call 11
  refine (check_ok _ D w2 (HC2.read HFit.out)).mono ?_
  rintro e w3 ⟨rfl, b3⟩
  have HC3 : Hd _ := ⟨HC2.grown b3⟩
  have B3 : Hd (Below w.heap.size w w3) := ⟨(B1.out.trans (by rw [← hgF] at A2; exact A2.out.mono B1.out.size)).trans (b3.mono (Nat.le_trans (by rw [← hgF] at A2; exact Nat.le_trans B1.out.size A2.out.size) (Nat.le_refl _)))⟩
  have F3 : Hd (Blk w3 gF 25 _) := ⟨F2.out.kept (Kept.of_below b3 (fun _ => False)) id⟩
  have R3 : Hd (Blk w3 (w.heap.size + 1) 34 _) := ⟨(R1.out.kept (Kept.of_below (by rw [hgF]; exact A2.out) (fun _ => False)) id).kept (Kept.of_below b3 (fun _ => False)) id⟩
  obtain ⟨q, hq, hq'⟩ := errV_two (chk D)
  rw [← hq]
  have HQ : Hd (q = errV (chk D)) := ⟨hq⟩
  clear HC2 A2 F2 R1 B1 HC b3 hq
  rcases hq' with ⟨rfl, hz⟩ | ⟨sa, sb, rfl, hz⟩
  · have HS : Hd (Passes D) := ⟨chk_zero.1 hz⟩
    have HZ : Hd ((chk D).1 = 0) := ⟨hz⟩
    clear hz HQ
    obtain ⟨vL, vS, V2, e2, hLv, hSc⟩ := HC3.out.ex
    cases e2
    have o25 := off_own hLv (by decide : 45 ≠ 25) gF _ F3.out
    have o31 := off_own hLv (by decide : 45 ≠ 34) (w.heap.size + 1) _ R3.out
    have o9 := off_own hLv (by decide : 45 ≠ 9)
    have o54 := off_own hLv (by decide : 45 ≠ 50)
    have o47 := off_own hLv (by decide : 45 ≠ 53)
    have s4 := F3.out.cellv 4 rfl
    go_wp2_with fail
    go_at_call 12
    refine (sortLv_ok hLv HP.out.1 (by have := HB.out.lv; omega)).mono ?_
    rintro e w4 ⟨rfl, M, pM, sM, hM, kM⟩
    have F4 : Hd (Blk w4 gF 25 _) := ⟨F3.out.kept kM o25⟩
    have R4 : Hd (Blk w4 (w.heap.size + 1) 34 _) := ⟨R3.out.kept kM o31⟩
    have hS4 := hSc.off kM o9 o54 o47
    have gLB : w0.heap.size ≤ gL := by obtain ⟨_, _, e, _, hr⟩ := owns_read hLv; cases e; obtain ⟨_, _, e, hB, _⟩ := hr HP.out.1; cases e; exact hB
    have B4 : Hd (Below w.heap.size w w4) := ⟨B3.out.trans (kM.below B3.out.size (fun k e => by cases e; have := Z0.out.2; show w.heap.size ≤ gL; omega))⟩
    have eM : M = srtB ltL D.levels := srtB_one strictL HS.out.aptL pM sM
    clear o25 o31 o9 o54 o47 s4 F3 R3 hLv hSc kM sM B3 HC3
    have o25 := off_own hS4.own (by decide : 53 ≠ 25) gF _ F4.out
    have o31 := off_own hS4.own (by decide : 53 ≠ 34) (w.heap.size + 1) _ R4.out
    have o43 := off_own hS4.own (by decide : 53 ≠ 45)
    have s5 := F4.out.cellv 5 rfl
    go_wp2_with fail
    go_at_call 14
    refine (sortSc_ok hS4 HP.out.2 (by have := HB.out.sc; omega)).mono ?_
    rintro e w5 ⟨rfl, M2, V5, pS, sS, hS5, kS⟩
    have F5 : Hd (Blk w5 gF 25 _) := ⟨F4.out.kept kS o25⟩
    have R5 : Hd (Blk w5 (w.heap.size + 1) 34 _) := ⟨R4.out.kept kS o31⟩
    have hL5 := hM.off kS o43
    have gSB : w0.heap.size ≤ gS := by obtain ⟨_, _, e, _, hr⟩ := owns_read hS4.own; cases e; obtain ⟨_, _, e, hB, _⟩ := hr HP.out.2; cases e; exact hB
    have B5 : Hd (Below w.heap.size w w5) := ⟨B4.out.trans (kS.below B4.out.size (fun k e => by cases e; have := Z0.out.2; show w.heap.size ≤ gS; omega))⟩
    have eS : M2 = srtB ltS D.schemas := srtB_one strictS HS.out.aptS pS sS
    have C5 : Hd (CfR w5 (.agg #[.int .i64 D.total, .int .i64 D.period, .int .i64 D.perSeat, .int .i64 D.most, .slice (some ⟨gL, 0, none⟩) D.levels.length c1, .slice (some ⟨gS, 0, none⟩) D.schemas.length c2]) (tblC C)) := ⟨by
      have hc : CfW w0.heap.size w5 (.agg #[.int .i64 D.total, .int .i64 D.period, .int .i64 D.perSeat, .int .i64 D.most, .slice (some ⟨gL, 0, none⟩) D.levels.length c1, .slice (some ⟨gS, 0, none⟩) D.schemas.length c2]) ⟨D.total, D.period, D.perSeat, D.most, M, M2⟩ := ⟨_, _, V5, rfl, hL5, hS5⟩
      have := hc.read (HFit.out.turn pM pS)
      rw [HG.out, ← eM, ← eS]
      exact this⟩
    have W5 : Hd (CfW w0.heap.size w5 (.agg #[.int .i64 D.total, .int .i64 D.period, .int .i64 D.perSeat, .int .i64 D.most, .slice (some ⟨gL, 0, none⟩) D.levels.length c1, .slice (some ⟨gS, 0, none⟩) D.schemas.length c2]) ⟨D.total, D.period, D.perSeat, D.most, M, M2⟩) := ⟨⟨_, _, V5, rfl, hL5, hS5⟩⟩
    have HI : Hd (Fits ⟨D.total, D.period, D.perSeat, D.most, M, M2⟩) := ⟨HFit.out.turn pM pS⟩
    have HW : Hd (tblC C = ⟨D.total, D.period, D.perSeat, D.most, M, M2⟩) := ⟨by rw [HG.out, ← eM, ← eS]⟩
    have PE := HPT.out HS.out
    have PS := HPS.out
    clear o25 o31 o43 s5 F4 R4 hS4 kS sS B4 hL5 hS5 pM pS hM eM eS HG HPT HPS
    obtain ⟨l0, l1, l2, l3, l4, l5⟩ : w5.cell? ⟨gF, 0, none⟩ = some _ ∧ w5.cell? ⟨gF, 1, none⟩ = some _ ∧ w5.cell? ⟨gF, 2, none⟩ = some _ ∧ w5.cell? ⟨gF, 3, none⟩ = some _ ∧ w5.cell? ⟨gF, 4, none⟩ = some _ ∧ w5.cell? ⟨gF, 5, none⟩ = some _ := ⟨F5.out.cellv 0 rfl, F5.out.cellv 1 rfl, F5.out.cellv 2 rfl, F5.out.cellv 3 rfl, F5.out.cellv 4 rfl, F5.out.cellv 5 rfl⟩
    have PR := print_ok _ (tblC C) w5 C5.out (HT.out.stays B5.out)
    have HO : Hd (mkE C = (printE (tblC C), ⟨#[]⟩)) := ⟨by rw [HD.out.1, if_pos HZ.out]⟩
    by_cases hbig : 65536 < (outB (tblC C)).size
    · rw [if_pos hbig] at PE
      rw [PE, if_neg (by decide)] at PS
      rw [PE, PS] at PR
      rw [PE] at HO
      clear hbig PE PS
      go_wp2_with fail
      go_at_call 16
      refine PR.mono ?_
      rintro e w6 ⟨rfl, b6⟩
      have R6 : Hd (Blk w6 (w.heap.size + 1) 34 _) := ⟨R5.out.kept (Kept.of_below b6 (fun _ => False)) id⟩
      have B6 : Hd (Below w.heap.size w w6) := ⟨B5.out.trans (b6.mono B5.out.size)⟩
      clear l0 l1 l2 l3 l4 l5 b6 R5 B5 C5 F5 PR
      go_wp2_with fail
      go_at_call 17
      refine (of_ok ⟨#[]⟩ 3 w6).mono ?_
      rintro e w7 ⟨rfl, hw⟩
      obtain rfl := hw.symm
      have hq : val (.inl 3) [⟨0, ⟨#[]⟩⟩] = .iface 90 (.agg #[.int .i64 0, .string ⟨#[]⟩, .iface 41 (.int .i64 3)]) := rfl
      rw [hq]
      obtain ⟨r0, r1, r2, r3, r4, r5, r6⟩ : w6.cell? ⟨w.heap.size + 1, 0, none⟩ = some _ ∧ w6.cell? ⟨w.heap.size + 1, 1, none⟩ = some _ ∧ w6.cell? ⟨w.heap.size + 1, 2, none⟩ = some _ ∧ w6.cell? ⟨w.heap.size + 1, 3, none⟩ = some _ ∧ w6.cell? ⟨w.heap.size + 1, 4, none⟩ = some _ ∧ w6.cell? ⟨w.heap.size + 1, 5, none⟩ = some _ ∧ w6.cell? ⟨w.heap.size + 1, 6, none⟩ = some _ := ⟨R6.out.cellv 0 rfl, R6.out.cellv 1 rfl, R6.out.cellv 2 rfl, R6.out.cellv 3 rfl, R6.out.cellv 4 rfl, R6.out.cellv 5 rfl, R6.out.cellv 6 rfl⟩
      have f0 := R6.out.frozen 0
      have f1 := R6.out.frozen 1
      have f2 := R6.out.frozen 2
      have f3 := R6.out.frozen 3
      have f4 := R6.out.frozen 4
      have f5 := R6.out.frozen 5
      have f6 := R6.out.frozen 6
      clear hq
      go_wp2_with fail
      obtain ⟨q1, q2⟩ := seven_set R6.out (.int .i64 0) (.int .i64 0) (.int .i64 0) (.int .i64 0) (.slice none 0 0) (.slice none 0 0) (.int .u64 0)
      refine bodyPost_ret (res10 _ _ _ _ _ _ _ _ _ _ _ rfl rfl q1) rfl ?_
      have E1 : ¬ (mkE C).1 = 0 := by rw [HO.out]; decide
      have E2 : mkC C = cf0 := by rw [HD.out.2.1, if_neg E1]
      have E3 : mkD C = 0 := by rw [HD.out.2.2, if_neg E1]
      refine ⟨⟨.slice none 0 0, .slice none 0 0, ?_, ?_⟩, B6.out.trans (q2.below B6.out.size (fun k e => by omega))⟩
      · rw [HO.out, E2, E3]; rfl
      · rw [E2]; exact cf0_r _
    · rw [if_neg hbig] at PE
      rw [PE, if_pos rfl] at PS
      rw [PE, PS] at PR
      rw [PE] at HO
      have hsz : (outB (tblC C)).size ≤ 9223372036854775807 := by omega
      have SM := Fn.sum_ok (outB (tblC C)) hsz
      have E1 : (mkE C).1 = 0 := by rw [HO.out]
      have HE2 : Hd (mkC C = tblC C) := ⟨by rw [HD.out.2.1, if_pos E1]⟩
      have HE3 : Hd (mkD C = Fn.sum (outB (tblC C))) := ⟨by rw [HD.out.2.2, if_pos E1]⟩
      clear hbig PE PS E1
      generalize Fn.sum (outB (tblC C)) = dg at *
      generalize outB (tblC C) = tx at *
      go_wp2_with fail
      go_at_call 16
      refine PR.mono ?_
      rintro e w6 ⟨rfl, b6⟩
      have R6 : Hd (Blk w6 (w.heap.size + 1) 34 _) := ⟨R5.out.kept (Kept.of_below b6 (fun _ => False)) id⟩
      have F6 : Hd (Blk w6 gF 25 _) := ⟨F5.out.kept (Kept.of_below b6 (fun _ => False)) id⟩
      have B6 : Hd (Below w.heap.size w w6) := ⟨B5.out.trans (b6.mono B5.out.size)⟩
      have W6 : Hd (CfW w0.heap.size w6 _ _) := ⟨W5.out.grown b6⟩
      clear l0 l1 l2 l3 l4 l5 b6 R5 B5 C5 F5 PR
      obtain ⟨l0, l1, l2, l3, l4, l5⟩ : w6.cell? ⟨gF, 0, none⟩ = some _ ∧ w6.cell? ⟨gF, 1, none⟩ = some _ ∧ w6.cell? ⟨gF, 2, none⟩ = some _ ∧ w6.cell? ⟨gF, 3, none⟩ = some _ ∧ w6.cell? ⟨gF, 4, none⟩ = some _ ∧ w6.cell? ⟨gF, 5, none⟩ = some _ := ⟨F6.out.cellv 0 rfl, F6.out.cellv 1 rfl, F6.out.cellv 2 rfl, F6.out.cellv 3 rfl, F6.out.cellv 4 rfl, F6.out.cellv 5 rfl⟩
      obtain ⟨r0, r1, r2, r3, r4, r5, r6⟩ : w6.cell? ⟨w.heap.size + 1, 0, none⟩ = some _ ∧ w6.cell? ⟨w.heap.size + 1, 1, none⟩ = some _ ∧ w6.cell? ⟨w.heap.size + 1, 2, none⟩ = some _ ∧ w6.cell? ⟨w.heap.size + 1, 3, none⟩ = some _ ∧ w6.cell? ⟨w.heap.size + 1, 4, none⟩ = some _ ∧ w6.cell? ⟨w.heap.size + 1, 5, none⟩ = some _ ∧ w6.cell? ⟨w.heap.size + 1, 6, none⟩ = some _ := ⟨R6.out.cellv 0 rfl, R6.out.cellv 1 rfl, R6.out.cellv 2 rfl, R6.out.cellv 3 rfl, R6.out.cellv 4 rfl, R6.out.cellv 5 rfl, R6.out.cellv 6 rfl⟩
      have f0 := R6.out.frozen 0
      have f1 := R6.out.frozen 1
      have f2 := R6.out.frozen 2
      have f3 := R6.out.frozen 3
      have f4 := R6.out.frozen 4
      have f5 := R6.out.frozen 5
      have f6 := R6.out.frozen 6
      go_wp2_with fail
      refine region_tail 3 (by kernel_rfl) ?_
      simp only [List.take_succ_cons, List.take_zero, List.drop_succ_cons, List.drop_zero]
      still_step
      still_step
      still_call (SM _)
      refine wpStill_nil ?_
      go_wp2_with fail
      obtain ⟨q1, q3⟩ := seven_setD R6.out (.int .i64 D.total) (.int .i64 D.period) (.int .i64 D.perSeat) (.int .i64 D.most) (.slice (some ⟨gL, 0, none⟩) D.levels.length c1) (.slice (some ⟨gS, 0, none⟩) D.schemas.length c2) (.int .u64 dg)
      refine bodyPost_ret (res10 _ _ _ _ _ _ _ _ _ _ _ rfl rfl q1) rfl ?_
      have CF := (W6.out.off q3 (off_blk R6.out (by decide)) (off_blk R6.out (by decide)) (off_blk R6.out (by decide)) (off_blk R6.out (by decide))).read HI.out
      refine ⟨⟨.slice (some ⟨gL, 0, none⟩) D.levels.length c1, .slice (some ⟨gS, 0, none⟩) D.schemas.length c2, ?_, ?_⟩, B6.out.trans (q3.below B6.out.size (fun k e => by omega))⟩
      · rw [HO.out, HE2.out, HE3.out, HW.out, errV_nil]; rfl
      · rw [HE2.out, HW.out]; exact CF
  · obtain ⟨r0, r1, r2, r3, r4, r5, r6⟩ : w3.cell? ⟨w.heap.size + 1, 0, none⟩ = some _ ∧ w3.cell? ⟨w.heap.size + 1, 1, none⟩ = some _ ∧ w3.cell? ⟨w.heap.size + 1, 2, none⟩ = some _ ∧ w3.cell? ⟨w.heap.size + 1, 3, none⟩ = some _ ∧ w3.cell? ⟨w.heap.size + 1, 4, none⟩ = some _ ∧ w3.cell? ⟨w.heap.size + 1, 5, none⟩ = some _ ∧ w3.cell? ⟨w.heap.size + 1, 6, none⟩ = some _ := ⟨R3.out.cellv 0 rfl, R3.out.cellv 1 rfl, R3.out.cellv 2 rfl, R3.out.cellv 3 rfl, R3.out.cellv 4 rfl, R3.out.cellv 5 rfl, R3.out.cellv 6 rfl⟩
    have f0 := R3.out.frozen 0
    have f1 := R3.out.frozen 1
    have f2 := R3.out.frozen 2
    have f3 := R3.out.frozen 3
    have f4 := R3.out.frozen 4
    have f5 := R3.out.frozen 5
    have f6 := R3.out.frozen 6
    have HE : Hd (¬ (chk D).1 = 0) := ⟨hz⟩
    clear hz
    go_wp2_with fail
    obtain ⟨q1, q2⟩ := seven_set R3.out (.int .i64 0) (.int .i64 0) (.int .i64 0) (.int .i64 0) (.slice none 0 0) (.slice none 0 0) (.int .u64 0)
    refine bodyPost_ret (res10 _ _ _ _ _ _ _ _ _ _ _ rfl rfl q1) rfl ?_
    have E : mkE C = chk D := by rw [HD.out.1, if_neg HE.out]
    have E1 : ¬ (mkE C).1 = 0 := by rw [E]; exact HE.out
    have E2 : mkC C = cf0 := by rw [HD.out.2.1, if_neg E1]
    have E3 : mkD C = 0 := by rw [HD.out.2.2, if_neg E1]
    refine ⟨⟨.slice none 0 0, .slice none 0 0, ?_, ?_⟩, B3.out.trans (q2.below B3.out.size (fun k e => by omega))⟩
    · rw [E, ← HQ.out, E2, E3]; rfl
    · rw [E2]; exact cf0_r _
end Go.Proofs.YtijjpblmnlednaaGreatDoor
