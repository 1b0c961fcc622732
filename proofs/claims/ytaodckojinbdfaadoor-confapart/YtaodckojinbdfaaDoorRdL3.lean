/-
  What the reader's method 'level' of the program does, by the kind that the words tell. Condition: the reader and the configuration lie in memory.
-/
import Derived.Test.YtaodckojinbdfaaDoorPush
import Derived.Deep.RegionLaw
namespace Go.Proofs.YtaodckojinbdfaaDoor
open Go.RowKit

set_option maxRecDepth 20000 in
set_option maxHeartbeats 4000000 in
theorem level_3 {B R A : Nat} {C : Cf} {ws : List ByteArray} (w : World) (H : Rd B w R A ws 0) (K : Cfg B w A C) (hF : C.levels.length ≤ 16) (hk : kindW ws = 3) :
    Calls Tryd.prog 34 #[.pointer (some ⟨R, 0, none⟩)] w fun r w' => r = .returned (.tuple #[]) ∧ Told B R A w w' (levelE C ws) ⟨C.total, C.period, C.perSeat, C.most, C.levels ++ [levelOf ws], C.schemas⟩ := by
  obtain ⟨i0, hi, hz0, hz1, hz2⟩ := info_parts info39
  obtain ⟨a, c, hb, hr, hc, h6⟩ := H.ex
  have c0 := hb.cellv 0 rfl
  have KO := kind_ok a c ws w hr.row
  rw [hk] at KO
  have o9 : Off 9 (fun k => k = R) w := off_blk hb (by decide)
  have o26 : Off 30 (fun k => k = R) w := off_blk hb (by decide)
  have o39 : Off 46 (fun k => k = R) w := off_blk hb (by decide)
  have o42 : Off 49 (fun k => k = R) w := off_blk hb (by decide)
  have o73 : Off 51 (fun k => k = R) w := off_blk hb (by decide)
  obtain ⟨vL, vS, V, hA, hL, hS, hD⟩ := K.ex
  obtain ⟨aL, cL, rfl⟩ := own_form hL
  have hRA : R ≠ A := hb.ne hA (by decide)
  have HBA := K.le
  have eE : levelE C ws = mu (mu (queueE ws (numsE ws (ifE (isName (gt ws 0)) 4))) (ifE (!hasLv C (gt ws 0)) 5)) (ifE (decide ((C.levels.length : Int) < 16)) 3) := by unfold levelE levelW; rw [hk]; rfl
  have eL : levelOf ws = ⟨gt ws 0, 3, numOf (gt ws 1) 0 10000, numOf (gt ws 2) 0 100, borrowOf (gt ws 3), numOf (gt ws 5) 1 64, numOf (gt ws 6) 1 8, numOf (gt ws 7) 1 64, numOf (gt ws 8) 1 1000, numOf (gt ws 9) 1 1000⟩ := by unfold levelOf; rw [hk]; rfl
  rw [eL]
  rw [eE]
  unfold numsE
  unfold queueE
  generalize hb0 : hasLv C (gt ws 0) = b
  generalize hq0 : isName (gt ws 0) = q0
  generalize hn1 : numOf (gt ws 1) 0 10000 = n1
  generalize hq1 : numIn (gt ws 1) 0 10000 = q1
  generalize hn2 : numOf (gt ws 2) 0 100 = n2
  generalize hq2 : numIn (gt ws 2) 0 100 = q2
  generalize hn5 : numOf (gt ws 5) 1 64 = n5
  generalize hq5 : numIn (gt ws 5) 1 64 = q5
  generalize hn6 : numOf (gt ws 6) 1 8 = n6
  generalize hq6 : numIn (gt ws 6) 1 8 = q6
  generalize hn7 : numOf (gt ws 7) 1 64 = n7
  generalize hq7 : numIn (gt ws 7) 1 64 = q7
  generalize hn8 : numOf (gt ws 8) 1 1000 = n8
  generalize hq8 : numIn (gt ws 8) 1 1000 = q8
  generalize hn9 : numOf (gt ws 9) 1 1000 = n9
  generalize hq9 : numIn (gt ws 9) 1 1000 = q9
  generalize hn3 : borrowOf (gt ws 3) = n3
  generalize hq3 : borrowOk (gt ws 3) = q3
  generalize hx : gt ws 0 = x
  have HX : Hd (gt ws 0 = x) := ⟨hx⟩
  generalize hE : mu (mu (mu (mu (mu (mu (mu (mu (mu (mu (ifE q0 4) (ifE q1 8)) (ifE q2 8)) (ifE q3 8)) (ifE q5 8)) (ifE q6 8)) (ifE q7 8)) (ifE q8 8)) (ifE q9 8)) (ifE (!b) 5)) (ifE (decide ((C.levels.length : Int) < 16)) 3) = E
  have HE : Hd (mu (mu (mu (mu (mu (mu (mu (mu (mu (mu (ifE q0 4) (ifE q1 8)) (ifE q2 8)) (ifE q3 8)) (ifE q5 8)) (ifE q6 8)) (ifE q7 8)) (ifE q8 8)) (ifE q9 8)) (ifE (!b) 5)) (ifE (decide ((C.levels.length : Int) < 16)) 3) = E) := ⟨hE⟩
  clear hE eE eL
  obtain ⟨w0, hw0⟩ : ∃ w0, w0 = w.alloc (.cells #[.string ⟨#[]⟩, .int .i64 3, .int .i64 0, .int .i64 0, .int .i64 0, .int .i64 0, .int .i64 0, .int .i64 0, .int .i64 0, .int .i64 0] 46) := ⟨_, rfl⟩
  have b0 : Below w.heap.size w w0 := by rw [hw0]; exact (Below.refl _ _).alloc (Nat.le_refl _) _
  have g0 : Blk w0 w.heap.size 46 #[.string ⟨#[]⟩, .int .i64 3, .int .i64 0, .int .i64 0, .int .i64 0, .int .i64 0, .int .i64 0, .int .i64 0, .int .i64 0, .int .i64 0] := by rw [hw0]; exact Blk.new w 46 _
  have h0 := H.grown b0
  have k0 : Kept (fun k => k = R) w w0 := Kept.of_below b0 _
  have hgR : w.heap.size ≠ R := fun e => by have := hb.lt; omega
  have hgA : w.heap.size ≠ A := fun e => by have := hA.lt; omega
  clear hr hc
  have HK : Hd (kindW ws = 3) := ⟨hk⟩
  clear hk hx
  go_enter Tryd.func34, Tryd.ntmps34
  go_wp2_with (go_at_call 48; refine KO.mono ?_; rintro r w1 ⟨rfl, hw⟩; obtain rfl := hw.symm)
  rw [← hw0]
  obtain ⟨g, hg⟩ : ∃ g, g = w.heap.size := ⟨_, rfl⟩
  rw [← hg] at g0 hgR hgA ⊢
  have HG : Hd (w.heap.size ≤ g) := ⟨by omega⟩
  have hRg := hgR.symm
  have hAg := hgA.symm
  clear hw0 hg b0 KO c0
  go_at_call 37
  refine (must_ok w0 h0 true 2).mono ?_
  rintro r w1 ⟨rfl, h1, q1x⟩
  try rw [mu_yes] at h1
  have g1 := g0.kept q1x hgR
  have k1 := k0.trans q1x
  clear h0 g0 k0 q1x
  go_wp2_with fail
  go_at_call 49
  refine (name_rd w1 h1).mono ?_
  rintro r w2 ⟨rfl, h2, q2x⟩
  try rw [hq0] at h2
  try rw [mu_zero] at h2
  have g2 := g1.kept q2x hgR
  have k2 := k1.trans q2x
  clear h1 g1 k1 q2x
  have z := g2.cellv 0 rfl
  have f := g2.frozen 0
  rw [HX.out]
  have z1 := g2.cellv 1 rfl
  go_wp2_with fail
  have h3 := h2.other g2 (by decide) (by decide) 0 (.string x)
  have g3 : Blk (w2.setCell ⟨g, 0, none⟩ (.string x)) g 46 #[.string x, .int .i64 3, .int .i64 0, .int .i64 0, .int .i64 0, .int .i64 0, .int .i64 0, .int .i64 0, .int .i64 0, .int .i64 0] := g2.set 0 _
  have k3 := k2.setCell ⟨g, 0, none⟩ (.string x) (.inr HG.out)
  generalize (w2.setCell ⟨g, 0, none⟩ (.string x)) = w3 at h3 g3 k3 ⊢
  clear h2 g2 k2 z f
  clear z1
  have CC := number_rd w3 h3 0 10000
  rw [gt_tail, hn1, hq1] at CC
  go_at_call 46
  refine CC.mono ?_
  rintro r w4 ⟨rfl, h4, q4x⟩
  have g4 := g3.kept q4x hgR
  have k4 := k3.trans q4x
  clear h3 g3 k3 q4x CC
  have z := g4.cellv 2 rfl
  have f := g4.frozen 2
  have z1 := g4.cellv 1 rfl
  go_wp2_with fail
  have h5 := h4.other g4 (by decide) (by decide) 2 (.int .i64 n1)
  have g5 : Blk (w4.setCell ⟨g, 2, none⟩ (.int .i64 n1)) g 46 #[.string x, .int .i64 3, .int .i64 n1, .int .i64 0, .int .i64 0, .int .i64 0, .int .i64 0, .int .i64 0, .int .i64 0, .int .i64 0] := g4.set 2 _
  have k5 := k4.setCell ⟨g, 2, none⟩ (.int .i64 n1) (.inr HG.out)
  generalize (w4.setCell ⟨g, 2, none⟩ (.int .i64 n1)) = w5 at h5 g5 k5 ⊢
  clear h4 g4 k4 z f
  clear z1
  have CC := number_rd w5 h5 0 100
  rw [gt_tail, gt_tail, hn2, hq2] at CC
  go_at_call 46
  refine CC.mono ?_
  rintro r w6 ⟨rfl, h6, q6x⟩
  have g6 := g5.kept q6x hgR
  have k6 := k5.trans q6x
  clear h5 g5 k5 q6x CC
  have z := g6.cellv 3 rfl
  have f := g6.frozen 3
  have z1 := g6.cellv 1 rfl
  go_wp2_with fail
  have h7 := h6.other g6 (by decide) (by decide) 3 (.int .i64 n2)
  have g7 : Blk (w6.setCell ⟨g, 3, none⟩ (.int .i64 n2)) g 46 #[.string x, .int .i64 3, .int .i64 n1, .int .i64 n2, .int .i64 0, .int .i64 0, .int .i64 0, .int .i64 0, .int .i64 0, .int .i64 0] := g6.set 3 _
  have k7 := k6.setCell ⟨g, 3, none⟩ (.int .i64 n2) (.inr HG.out)
  generalize (w6.setCell ⟨g, 3, none⟩ (.int .i64 n2)) = w7 at h7 g7 k7 ⊢
  clear h6 g6 k6 z f
  clear z1
  have CC := borrow_rd w7 h7
  rw [gt_tail, gt_tail, gt_tail, hn3, hq3] at CC
  go_at_call 50
  refine CC.mono ?_
  rintro r w8 ⟨rfl, h8, q8x⟩
  have g8 := g7.kept q8x hgR
  have k8 := k7.trans q8x
  clear h7 g7 k7 q8x CC
  have z := g8.cellv 4 rfl
  have f := g8.frozen 4
  have z1 := g8.cellv 1 rfl
  go_wp2_with fail
  have h9 := h8.other g8 (by decide) (by decide) 4 (.int .i64 n3)
  have g9 : Blk (w8.setCell ⟨g, 4, none⟩ (.int .i64 n3)) g 46 #[.string x, .int .i64 3, .int .i64 n1, .int .i64 n2, .int .i64 n3, .int .i64 0, .int .i64 0, .int .i64 0, .int .i64 0, .int .i64 0] := g8.set 4 _
  have k9 := k8.setCell ⟨g, 4, none⟩ (.int .i64 n3) (.inr HG.out)
  generalize (w8.setCell ⟨g, 4, none⟩ (.int .i64 n3)) = w9 at h9 g9 k9 ⊢
  clear h8 g8 k8 z f
  clear z1
  have CC := word_rd w9 h9
  go_at_call 30
  refine CC.mono ?_
  rintro r w10 ⟨rfl, h10, q10x⟩
  have g10 := g9.kept q10x hgR
  have k10 := k9.trans q10x
  clear h9 g9 k9 q10x CC
  go_wp2_with fail
  have CC := number_rd w10 h10 1 64
  rw [gt_tail, gt_tail, gt_tail, gt_tail, gt_tail, hn5, hq5] at CC
  go_at_call 46
  refine CC.mono ?_
  rintro r w11 ⟨rfl, h11, q11x⟩
  have g11 := g10.kept q11x hgR
  have k11 := k10.trans q11x
  clear h10 g10 k10 q11x CC
  have z := g11.cellv 5 rfl
  have f := g11.frozen 5
  have z1 := g11.cellv 1 rfl
  go_wp2_with fail
  have h12 := h11.other g11 (by decide) (by decide) 5 (.int .i64 n5)
  have g12 : Blk (w11.setCell ⟨g, 5, none⟩ (.int .i64 n5)) g 46 #[.string x, .int .i64 3, .int .i64 n1, .int .i64 n2, .int .i64 n3, .int .i64 n5, .int .i64 0, .int .i64 0, .int .i64 0, .int .i64 0] := g11.set 5 _
  have k12 := k11.setCell ⟨g, 5, none⟩ (.int .i64 n5) (.inr HG.out)
  generalize (w11.setCell ⟨g, 5, none⟩ (.int .i64 n5)) = w12 at h12 g12 k12 ⊢
  clear h11 g11 k11 z f
  clear z1
  have CC := number_rd w12 h12 1 8
  rw [gt_tail, gt_tail, gt_tail, gt_tail, gt_tail, gt_tail, hn6, hq6] at CC
  go_at_call 46
  refine CC.mono ?_
  rintro r w13 ⟨rfl, h13, q13x⟩
  have g13 := g12.kept q13x hgR
  have k13 := k12.trans q13x
  clear h12 g12 k12 q13x CC
  have z := g13.cellv 6 rfl
  have f := g13.frozen 6
  have z1 := g13.cellv 1 rfl
  go_wp2_with fail
  have h14 := h13.other g13 (by decide) (by decide) 6 (.int .i64 n6)
  have g14 : Blk (w13.setCell ⟨g, 6, none⟩ (.int .i64 n6)) g 46 #[.string x, .int .i64 3, .int .i64 n1, .int .i64 n2, .int .i64 n3, .int .i64 n5, .int .i64 n6, .int .i64 0, .int .i64 0, .int .i64 0] := g13.set 6 _
  have k14 := k13.setCell ⟨g, 6, none⟩ (.int .i64 n6) (.inr HG.out)
  generalize (w13.setCell ⟨g, 6, none⟩ (.int .i64 n6)) = w14 at h14 g14 k14 ⊢
  clear h13 g13 k13 z f
  clear z1
  have CC := number_rd w14 h14 1 64
  rw [gt_tail, gt_tail, gt_tail, gt_tail, gt_tail, gt_tail, gt_tail, hn7, hq7] at CC
  go_at_call 46
  refine CC.mono ?_
  rintro r w15 ⟨rfl, h15, q15x⟩
  have g15 := g14.kept q15x hgR
  have k15 := k14.trans q15x
  clear h14 g14 k14 q15x CC
  have z := g15.cellv 7 rfl
  have f := g15.frozen 7
  have z1 := g15.cellv 1 rfl
  go_wp2_with fail
  have h16 := h15.other g15 (by decide) (by decide) 7 (.int .i64 n7)
  have g16 : Blk (w15.setCell ⟨g, 7, none⟩ (.int .i64 n7)) g 46 #[.string x, .int .i64 3, .int .i64 n1, .int .i64 n2, .int .i64 n3, .int .i64 n5, .int .i64 n6, .int .i64 n7, .int .i64 0, .int .i64 0] := g15.set 7 _
  have k16 := k15.setCell ⟨g, 7, none⟩ (.int .i64 n7) (.inr HG.out)
  generalize (w15.setCell ⟨g, 7, none⟩ (.int .i64 n7)) = w16 at h16 g16 k16 ⊢
  clear h15 g15 k15 z f
  clear z1
  have CC := number_rd w16 h16 1 1000
  rw [gt_tail, gt_tail, gt_tail, gt_tail, gt_tail, gt_tail, gt_tail, gt_tail, hn8, hq8] at CC
  go_at_call 46
  refine CC.mono ?_
  rintro r w17 ⟨rfl, h17, q17x⟩
  have g17 := g16.kept q17x hgR
  have k17 := k16.trans q17x
  clear h16 g16 k16 q17x CC
  have z := g17.cellv 8 rfl
  have f := g17.frozen 8
  have z1 := g17.cellv 1 rfl
  go_wp2_with fail
  have h18 := h17.other g17 (by decide) (by decide) 8 (.int .i64 n8)
  have g18 : Blk (w17.setCell ⟨g, 8, none⟩ (.int .i64 n8)) g 46 #[.string x, .int .i64 3, .int .i64 n1, .int .i64 n2, .int .i64 n3, .int .i64 n5, .int .i64 n6, .int .i64 n7, .int .i64 n8, .int .i64 0] := g17.set 8 _
  have k18 := k17.setCell ⟨g, 8, none⟩ (.int .i64 n8) (.inr HG.out)
  generalize (w17.setCell ⟨g, 8, none⟩ (.int .i64 n8)) = w18 at h18 g18 k18 ⊢
  clear h17 g17 k17 z f
  clear z1
  have CC := number_rd w18 h18 1 1000
  rw [gt_tail, gt_tail, gt_tail, gt_tail, gt_tail, gt_tail, gt_tail, gt_tail, gt_tail, hn9, hq9] at CC
  go_at_call 46
  refine CC.mono ?_
  rintro r w19 ⟨rfl, h19, q19x⟩
  have g19 := g18.kept q19x hgR
  have k19 := k18.trans q19x
  clear h18 g18 k18 q19x CC
  have z := g19.cellv 9 rfl
  have f := g19.frozen 9
  have z1 := g19.cellv 1 rfl
  obtain ⟨ax, cx, hbx, -⟩ := h19.ex
  have d1 := hbx.cellv 1 rfl
  have hAx := hA.off k19 o26
  have d4 := hAx.cellv 4 rfl
  clear hbx hAx
  have hmf : ∀ (fn : Fn) (first cap : Array Value) (w : World), (Instr.makeFunc fn first cap).run Tryd.prog w = .ok (.func fn first cap) w := fun _ _ _ _ => rfl
  go_wp2_with fail
  clear d1 d4
  have h20 := h19.other g19 (by decide) (by decide) 9 (.int .i64 n9)
  have g20 : Blk (w19.setCell ⟨g, 9, none⟩ (.int .i64 n9)) g 46 #[.string x, .int .i64 3, .int .i64 n1, .int .i64 n2, .int .i64 n3, .int .i64 n5, .int .i64 n6, .int .i64 n7, .int .i64 n8, .int .i64 n9] := g19.set 9 _
  have k20 := k19.setCell ⟨g, 9, none⟩ (.int .i64 n9) (.inr HG.out)
  generalize (w19.setCell ⟨g, 9, none⟩ (.int .i64 n9)) = w20 at h20 g20 k20 ⊢
  clear h19 g19 k19 z f
  clear z1
  have CC := hasLv_ok g x w20 (g20.cellv 0 rfl) (hL.off k20 o39) (by omega)
  rw [show (C.levels.any fun l => decide (l.name = x)) = b by rw [← hb0, ← HX.out]; rfl] at CC
  go_at_call 51
  refine CC.mono ?_
  rintro r w21 ⟨rfl, bb⟩
  have h21 := h20.grown bb
  have g21 := g20.kept (Kept.of_below bb (fun _ => False)) id
  have k21 := k20.trans (Kept.of_below bb _)
  clear h20 g20 k20 bb CC
  have CC := must_ok w21 h21 (!b) 5
  go_wp2_with fail
  go_at_call 37
  refine CC.mono ?_
  rintro r w22 ⟨rfl, h22, qq⟩
  have g22 := g21.kept qq hgR
  have k22 := k21.trans qq
  clear h21 g21 k21 qq CC
  obtain ⟨ax, cx, hbx, -⟩ := h22.ex
  have d1 := hbx.cellv 1 rfl
  have hAx := hA.off k22 o26
  have d4 := hAx.cellv 4 rfl
  clear hbx hAx
  have CC := must_ok w22 h22 (decide ((C.levels.length : Int) < 16)) 3
  rw [HE.out] at CC
  go_wp2_with fail
  clear d1 d4
  go_at_call 37
  refine CC.mono ?_
  rintro r w9 ⟨rfl, h9, qq⟩
  have g9 := g22.kept qq hgR
  have k9 := k22.trans qq
  clear h22 g22 k22 qq CC
  have F := fine_ok w9 h9
  by_cases hE0 : E = 0
  · subst hE0
    have hn16 : (C.levels.length : Int) < 16 := of_decide_eq_true ((ifE_eq_zero (by decide)).1 (mu_eq_zero.1 HE.out).2)
    have hn16' : C.levels.length < 16 := by omega
    have KW := H.kt k9
    have hA9 := hA.off k9 o26
    have hL9 := hL.off k9 o39
    have hS9 := hS.off k9 o9 o42 o73
    obtain ⟨csR, hbx, hc1⟩ : ∃ cs, Blk w9 R 58 cs ∧ cs[1]? = some (.pointer (some ⟨A, 0, none⟩)) := by
      obtain ⟨ax, cx, hbx, -⟩ := h9.ex
      exact ⟨_, hbx, rfl⟩
    have d1 := hbx.cellv 1 hc1
    have d4 := hA9.cellv 4 rfl
    have f4 := hA9.frozen 4
    have z0 := g9.cellv 0 rfl
    have z1 := g9.cellv 1 rfl
    have z2 := g9.cellv 2 rfl
    have z3 := g9.cellv 3 rfl
    have z4 := g9.cellv 4 rfl
    have z5 := g9.cellv 5 rfl
    have z6 := g9.cellv 6 rfl
    have z7 := g9.cellv 7 rfl
    have z8 := g9.cellv 8 rfl
    have z9 := g9.cellv 9 rfl
    have hg9 := g9.lt
    have hA9l := hA9.lt
    have hbxl := hbx.lt
    have OWN : (w9.drew.alloc (.cells #[.string x, .int .i64 3, .int .i64 n1, .int .i64 n2, .int .i64 n3, .int .i64 n5, .int .i64 n6, .int .i64 n7, .int .i64 n8, .int .i64 n9] 46)).ownsRow B 46 10 (.slice aL C.levels.length cL) C.levels.length (lvCs C.levels) := World.ownsRow.alloc hL9 _
    have NEWS : ∀ j u, ([.string x, .int .i64 3, .int .i64 n1, .int .i64 n2, .int .i64 n3, .int .i64 n5, .int .i64 n6, .int .i64 n7, .int .i64 n8, .int .i64 n9] : List Value)[j]? = some u → (w9.drew.alloc (.cells #[.string x, .int .i64 3, .int .i64 n1, .int .i64 n2, .int .i64 n3, .int .i64 n5, .int .i64 n6, .int .i64 n7, .int .i64 n8, .int .i64 n9] 46)).cell? ((⟨w9.heap.size, 0, none⟩ : Addr).add j) = some u := World.news_of_block (cs := #[.string x, .int .i64 3, .int .i64 n1, .int .i64 n2, .int .i64 n3, .int .i64 n5, .int .i64 n6, .int .i64 n7, .int .i64 n8, .int .i64 n9]) (t := 46) (fr := (0, 0)) (Blk.new w9.drew 46 _)
    have ONE : ∀ u ∈ ([.string x, .int .i64 3, .int .i64 n1, .int .i64 n2, .int .i64 n3, .int .i64 n5, .int .i64 n6, .int .i64 n7, .int .i64 n8, .int .i64 n9] : List Value), u.oneCell' = true := by
      intro u hu
      simp only [List.mem_cons, List.not_mem_nil, or_false] at hu
      rcases hu with rfl | rfl | rfl | rfl | rfl | rfl | rfl | rfl | rfl | rfl <;> rfl
    have PL := fun q cap w8 hown hgrow => push_lv (q := q) (cap := cap) (w8 := w8) (l := ⟨x, 3, n1, n2, n3, n5, n6, n7, n8, n9⟩) (o := .cells #[.string x, .int .i64 3, .int .i64 n1, .int .i64 n2, .int .i64 n3, .int .i64 n5, .int .i64 n6, .int .i64 n7, .int .i64 n8, .int .i64 n9] 46) h9 HBA KW hA9 hL9 hS9 hD hown hgrow
    have far : ∀ w8 : World, (w9.drew.alloc (.cells #[.string x, .int .i64 3, .int .i64 n1, .int .i64 n2, .int .i64 n3, .int .i64 n5, .int .i64 n6, .int .i64 n7, .int .i64 n8, .int .i64 n9] 46)).grownBy w8 (Value.slice aL C.levels.length cL).ownBlock → w8.cell? ⟨A, 4, none⟩ = some (.slice aL C.levels.length cL) ∧ w8.frozen? ⟨A, 4, none⟩ = false := fun w8 hg8 => by
      have := hA9.off (grown_kept hg8) (off_own hL9 (by decide))
      exact ⟨this.cellv 4 rfl, this.frozen 4⟩
    have HOLD0 : w9.drew.cell? ⟨R, 1, none⟩ = some (.pointer (some ⟨A, 0, none⟩)) ∧ w9.drew.cell? ⟨g, 0, none⟩ = some (.string x) ∧ w9.drew.cell? ⟨g, 1, none⟩ = some (.int .i64 3) ∧ w9.drew.cell? ⟨g, 2, none⟩ = some (.int .i64 n1) ∧ w9.drew.cell? ⟨g, 3, none⟩ = some (.int .i64 n2) ∧ w9.drew.cell? ⟨g, 4, none⟩ = some (.int .i64 n3) ∧ w9.drew.cell? ⟨g, 5, none⟩ = some (.int .i64 n5) ∧ w9.drew.cell? ⟨g, 6, none⟩ = some (.int .i64 n6) ∧ w9.drew.cell? ⟨g, 7, none⟩ = some (.int .i64 n7) ∧ w9.drew.cell? ⟨g, 8, none⟩ = some (.int .i64 n8) ∧ w9.drew.cell? ⟨g, 9, none⟩ = some (.int .i64 n9) := ⟨d1, z0, z1, z2, z3, z4, z5, z6, z7, z8, z9⟩
    have HOLDW : ∀ w' : World, Blk w' R 58 csR → Blk w' g 46 #[.string x, .int .i64 3, .int .i64 n1, .int .i64 n2, .int .i64 n3, .int .i64 n5, .int .i64 n6, .int .i64 n7, .int .i64 n8, .int .i64 n9] → w'.cell? ⟨R, 1, none⟩ = some (.pointer (some ⟨A, 0, none⟩)) ∧ w'.cell? ⟨g, 0, none⟩ = some (.string x) ∧ w'.cell? ⟨g, 1, none⟩ = some (.int .i64 3) ∧ w'.cell? ⟨g, 2, none⟩ = some (.int .i64 n1) ∧ w'.cell? ⟨g, 3, none⟩ = some (.int .i64 n2) ∧ w'.cell? ⟨g, 4, none⟩ = some (.int .i64 n3) ∧ w'.cell? ⟨g, 5, none⟩ = some (.int .i64 n5) ∧ w'.cell? ⟨g, 6, none⟩ = some (.int .i64 n6) ∧ w'.cell? ⟨g, 7, none⟩ = some (.int .i64 n7) ∧ w'.cell? ⟨g, 8, none⟩ = some (.int .i64 n8) ∧ w'.cell? ⟨g, 9, none⟩ = some (.int .i64 n9) := fun w' h1 h2 => ⟨h1.cellv 1 hc1, h2.cellv 0 rfl, h2.cellv 1 rfl, h2.cellv 2 rfl, h2.cellv 3 rfl, h2.cellv 4 rfl, h2.cellv 5 rfl, h2.cellv 6 rfl, h2.cellv 7 rfl, h2.cellv 8 rfl, h2.cellv 9 rfl⟩
    have HOLD1 := HOLDW (w9.drew.alloc (.cells #[.string x, .int .i64 3, .int .i64 n1, .int .i64 n2, .int .i64 n3, .int .i64 n5, .int .i64 n6, .int .i64 n7, .int .i64 n8, .int .i64 n9] 46)) ((hbx.kept (Kept.refl (fun _ => False) w9).drew id).kept (Kept.of_below ((Below.refl _ _).alloc (Nat.le_refl _) _) (fun _ => False)) id) ((g9.kept (Kept.refl (fun _ => False) w9).drew id).kept (Kept.of_below ((Below.refl _ _).alloc (Nat.le_refl _) _) (fun _ => False)) id)
    have gne : ∀ k, (Value.slice aL C.levels.length cL).ownBlock = some k → g ≠ k := fun k hk e => by
      have h1 := (hL.lt k hk).2
      have h2 := HG.out
      omega
    have FARB : ∀ w8 : World, (w9.drew.alloc (.cells #[.string x, .int .i64 3, .int .i64 n1, .int .i64 n2, .int .i64 n3, .int .i64 n5, .int .i64 n6, .int .i64 n7, .int .i64 n8, .int .i64 n9] 46)).grownBy w8 (Value.slice aL C.levels.length cL).ownBlock → Blk w8 R 58 csR ∧ Blk w8 g 46 #[.string x, .int .i64 3, .int .i64 n1, .int .i64 n2, .int .i64 n3, .int .i64 n5, .int .i64 n6, .int .i64 n7, .int .i64 n8, .int .i64 n9] := fun w8 hg8 =>
      ⟨hbx.off (grown_kept hg8) (off_own hL9 (by decide)), g9.kept (grown_kept hg8) (fun e => gne g e rfl)⟩
    have FAR := fun w8 hg8 => HOLDW w8 (FARB w8 hg8).1 (FARB w8 hg8).2
    have FAR2 := fun (w8 : World) (i : Nat) (v : Value) hg8 => HOLDW (w8.setCell ⟨A, i, none⟩ v) ((FARB w8 hg8).1.other hRA v) ((FARB w8 hg8).2.other hgA v)
    clear HOLDW FARB
    have HP : Hd (∀ (q cap : Nat) (w8 : World), _ → _ → _) := ⟨PL⟩
    have hBw : B ≤ w9.heap.size + 1 := by omega
    clear gne PL hA9 hL9 hS9 hbx h9 g9 k9 KW hL hS hA hD HE hb o9 o26 o39 o42 o73 H K
    go_wp2_with (go_at_call 47; refine F.mono ?_; rintro e w' ⟨rfl, hw⟩; obtain rfl := hw.symm)
    go_region_law (refine step_append_lies _ rfl (.tmp 86) (.tmp 88) 27 rfl B 46 i0 (.agg #[.string ⟨#[]⟩, .int .i64 0, .int .i64 0, .int .i64 0, .int .i64 0, .int .i64 0, .int .i64 0, .int .i64 0, .int .i64 0, .int .i64 0]) 10 88 Tryd.underlying27 hi hz0 hz1 hz2 rfl (by decide) _ C.levels.length (lvCs C.levels) (by simp [Act.eval]) OWN ⟨w9.heap.size, 0, none⟩ 1 1 [.string x, .int .i64 3, .int .i64 n1, .int .i64 n2, .int .i64 n3, .int .i64 n5, .int .i64 n6, .int .i64 n7, .int .i64 n8, .int .i64 n9] (by simp [Act.eval]) rfl NEWS ONE (by decide) (by unfold maxLen; omega) (by omega) (by simp; omega) _ rfl ?_; intro q cap w8 hown hgrow hat hlt; obtain ⟨y4, fy4⟩ := far w8 hgrow; obtain ⟨y1, _⟩ := FAR w8 hgrow)
    all_goals
      go_wp2
      go_end0
      exact ⟨rfl, HP.out _ _ _ hown hgrow⟩
  · have e0 : (E == 0) = false := by simpa using hE0
    rw [e0] at F
    have R3 : Hd (Told B R A w w9 E ⟨C.total, C.period, C.perSeat, C.most, C.levels ++ [⟨x, 3, n1, n2, n3, n5, n6, n7, n8, n9⟩], C.schemas⟩) := ⟨⟨_, h9⟩, fun h => absurd h hE0, H.kt k9⟩
    clear h9 g9 k9 hL hS hA hD HE hb o9 o26 o39 o42 o73 H K
    go_wp2_with (go_at_call 47; refine F.mono ?_; rintro e w' ⟨rfl, hw⟩; obtain rfl := hw.symm)
    go_end0
    exact ⟨rfl, R3.out⟩

end Go.Proofs.YtaodckojinbdfaaDoor
