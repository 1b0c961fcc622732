/-
  What the reader's method 'rule' of the program does. Condition: the reader and the configuration lie in memory.
-/
import Derived.Test.YtaodckojinbdfaaDoorPushR
namespace Go.Proofs.YtaodckojinbdfaaDoor
open Go.RowKit

theorem info73 : (Tryd.prog.info? 51).map (fun i => (i.zero, i.size, i.bytes)) = some (some (.agg #[.slice none 0 0, .slice none 0 0, .slice none 0 0, .slice none 0 0, .slice none 0 0]), 5, 120) := by kernel_rfl

set_option maxRecDepth 20000 in
set_option maxHeartbeats 4000000 in
theorem rule_0 {B R A : Nat} {C : Cf} {ws : List ByteArray} (w : World) (H : Rd B w R A ws 0) (K : Cfg B w A C) (hF : C.schemas.length ≤ 32) (h5 : ((ws.length : Int) == 5) = false) :
    Calls Tryd.prog 36 #[.pointer (some ⟨R, 0, none⟩)] w fun r w' => r = .returned (.tuple #[]) ∧ Told B R A w w' (ruleE C ws) ⟨C.total, C.period, C.perSeat, C.most, C.levels, addRule (ruleOf ws) C.schemas⟩ := by
  obtain ⟨i0, hi, hz0, hz1, hz2⟩ := info_parts info73
  obtain ⟨a, c, hb, hr, hc, h6⟩ := H.ex
  have c0 := hb.cellv 0 rfl
  have c1 := hb.cellv 1 rfl
  have o9 : Off 9 (fun k => k = R) w := off_blk hb (by decide)
  have o26 : Off 30 (fun k => k = R) w := off_blk hb (by decide)
  have o39 : Off 46 (fun k => k = R) w := off_blk hb (by decide)
  have o42 : Off 49 (fun k => k = R) w := off_blk hb (by decide)
  have o73 : Off 51 (fun k => k = R) w := off_blk hb (by decide)
  obtain ⟨vL, vS, V, hA, hL, hS, hD⟩ := K.ex
  have hRA : R ≠ A := hb.ne hA (by decide)
  have HBA := K.le
  have HF : Hd (C.schemas.length ≤ 32) := ⟨hF⟩
  clear hr hc
  obtain ⟨aL, cL, rfl⟩ := own_form hS.own
  have a5 := hA.cellv 5 rfl
  have EE : ruleW C ws = 2 := by
    unfold ruleW
    rw [h5, Bool.false_and, ifE_no, mu_keep (e := 2) (by decide), mu_keep (e := 2) (by decide), mu_keep (e := 2) (by decide), mu_keep (e := 2) (by decide), mu_keep (e := 2) (by decide)]
  have hE : ruleE C ws = 2 := by unfold ruleE; rw [EE, mu_keep (e := 2) (by decide)]
  rw [hE]
  have M1 := must_ok w H false 2
  rw [mu_zero, ifE_no] at M1
  clear hF
  have nonneg : ∀ n : Nat, (n : Int) > 0 ↔ 0 < n := fun n => by omega
  clear nonneg
  go_enter Tryd.func36, Tryd.ntmps36
  go_wp2_with fail
  go_at_call 37
  refine M1.mono ?_
  rintro r v0 ⟨rfl, hv0, kv0⟩
  clear M1 c0 c1 a5
  have hgR0 : v0.heap.size ≠ R := fun e => by have := hv0.lt; omega
  have hgA0 : v0.heap.size ≠ A := fun e => by have := (hA.off kv0 o26).lt; omega
  obtain ⟨w0, hw0⟩ : ∃ w0, w0 = v0.alloc (.cells #[.slice none 0 0, .slice none 0 0, .slice none 0 0, .slice none 0 0, .slice none 0 0] 51) := ⟨_, rfl⟩
  have b0 : Below v0.heap.size v0 w0 := by rw [hw0]; exact (Below.refl _ _).alloc (Nat.le_refl _) _
  have g0 : Blk w0 v0.heap.size 51 #[.slice none 0 0, .slice none 0 0, .slice none 0 0, .slice none 0 0, .slice none 0 0] := by rw [hw0]; exact Blk.new v0 51 _
  have h0 := hv0.grown b0
  have k0 : Kept (fun k => k = R) w w0 := kv0.trans (Kept.of_below b0 _)
  go_wp2_with fail
  rw [← hw0]
  obtain ⟨g, hg⟩ : ∃ g, g = v0.heap.size := ⟨_, rfl⟩
  rw [← hg] at g0 hgR0 hgA0 ⊢
  have HG : Hd (w.heap.size ≤ g) := ⟨by have := kv0.size; omega⟩
  have hgR := hgR0
  have hgA := hgA0
  have hRg := hgR.symm
  have hAg := hgA.symm
  clear hw0 hg b0 hgR0 hgA0 hv0 kv0
  have CC := list_rd w0 h0
  rw [mu_keep (e := 2) (by decide)] at CC
  generalize listOf _ = L0 at CC
  go_at_call 56
  refine CC.mono ?_
  rintro r w1 ⟨v0, rfl, T0, h1, q1x⟩
  obtain ⟨a0, c0, rfl, hy0⟩ := id T0
  clear T0 hy0
  generalize L0.length = m0
  have g1 := g0.kept q1x hgR
  have k1 := k0.trans q1x
  clear h0 g0 k0 q1x CC
  have z := g1.cellv 0 rfl
  have f := g1.frozen 0
  go_wp2_with fail
  have h2 := h1.other g1 (by decide) (by decide) 0 (.slice a0 m0 c0)
  have g2 : Blk (w1.setCell ⟨g, 0, none⟩ (.slice a0 m0 c0)) g 51 #[.slice a0 m0 c0, .slice none 0 0, .slice none 0 0, .slice none 0 0, .slice none 0 0] := g1.set 0 _
  have k2 := k1.setCell ⟨g, 0, none⟩ (.slice a0 m0 c0) (.inr HG.out)
  have s9 : Off 9 (fun k => k = g) w1 := off_blk g1 (by decide)
  have kx : Kept (fun k => k = g) w1 (w1.setCell ⟨g, 0, none⟩ (.slice a0 m0 c0)) := (Kept.refl _ _).setCell ⟨g, 0, none⟩ _ (.inl rfl)
  generalize (w1.setCell ⟨g, 0, none⟩ (.slice a0 m0 c0)) = w2 at h2 g2 k2 kx  ⊢
  clear h1 g1 k1 z f s9 kx
  have CC := list_rd w2 h2
  rw [mu_keep (e := 2) (by decide)] at CC
  generalize listOf _ = L1 at CC
  go_at_call 56
  refine CC.mono ?_
  rintro r w3 ⟨v1, rfl, T1, h3, q3x⟩
  obtain ⟨a1, c1, rfl, hy1⟩ := id T1
  clear T1 hy1
  generalize L1.length = m1
  have g3 := g2.kept q3x hgR
  have k3 := k2.trans q3x
  clear h2 g2 k2 q3x CC
  have z := g3.cellv 1 rfl
  have f := g3.frozen 1
  go_wp2_with fail
  have h4 := h3.other g3 (by decide) (by decide) 1 (.slice a1 m1 c1)
  have g4 : Blk (w3.setCell ⟨g, 1, none⟩ (.slice a1 m1 c1)) g 51 #[.slice a0 m0 c0, .slice a1 m1 c1, .slice none 0 0, .slice none 0 0, .slice none 0 0] := g3.set 1 _
  have k4 := k3.setCell ⟨g, 1, none⟩ (.slice a1 m1 c1) (.inr HG.out)
  have s9 : Off 9 (fun k => k = g) w3 := off_blk g3 (by decide)
  have kx : Kept (fun k => k = g) w3 (w3.setCell ⟨g, 1, none⟩ (.slice a1 m1 c1)) := (Kept.refl _ _).setCell ⟨g, 1, none⟩ _ (.inl rfl)
  generalize (w3.setCell ⟨g, 1, none⟩ (.slice a1 m1 c1)) = w4 at h4 g4 k4 kx  ⊢
  clear h3 g3 k3 z f s9 kx
  have CC := list_rd w4 h4
  rw [mu_keep (e := 2) (by decide)] at CC
  generalize listOf _ = L2 at CC
  go_at_call 56
  refine CC.mono ?_
  rintro r w5 ⟨v2, rfl, T2, h5, q5x⟩
  obtain ⟨a2, c2, rfl, hy2⟩ := id T2
  clear T2 hy2
  generalize L2.length = m2
  have g5 := g4.kept q5x hgR
  have k5 := k4.trans q5x
  clear h4 g4 k4 q5x CC
  have z := g5.cellv 2 rfl
  have f := g5.frozen 2
  go_wp2_with fail
  have h6 := h5.other g5 (by decide) (by decide) 2 (.slice a2 m2 c2)
  have g6 : Blk (w5.setCell ⟨g, 2, none⟩ (.slice a2 m2 c2)) g 51 #[.slice a0 m0 c0, .slice a1 m1 c1, .slice a2 m2 c2, .slice none 0 0, .slice none 0 0] := g5.set 2 _
  have k6 := k5.setCell ⟨g, 2, none⟩ (.slice a2 m2 c2) (.inr HG.out)
  have s9 : Off 9 (fun k => k = g) w5 := off_blk g5 (by decide)
  have kx : Kept (fun k => k = g) w5 (w5.setCell ⟨g, 2, none⟩ (.slice a2 m2 c2)) := (Kept.refl _ _).setCell ⟨g, 2, none⟩ _ (.inl rfl)
  generalize (w5.setCell ⟨g, 2, none⟩ (.slice a2 m2 c2)) = w6 at h6 g6 k6 kx  ⊢
  clear h5 g5 k5 z f s9 kx
  have CC := list_rd w6 h6
  rw [mu_keep (e := 2) (by decide)] at CC
  generalize listOf _ = L3 at CC
  go_at_call 56
  refine CC.mono ?_
  rintro r w7 ⟨v3, rfl, T3, h7, q7x⟩
  obtain ⟨a3, c3, rfl, hy3⟩ := id T3
  clear T3 hy3
  generalize L3.length = m3
  have g7 := g6.kept q7x hgR
  have k7 := k6.trans q7x
  clear h6 g6 k6 q7x CC
  have z := g7.cellv 3 rfl
  have f := g7.frozen 3
  go_wp2_with fail
  have h8 := h7.other g7 (by decide) (by decide) 3 (.slice a3 m3 c3)
  have g8 : Blk (w7.setCell ⟨g, 3, none⟩ (.slice a3 m3 c3)) g 51 #[.slice a0 m0 c0, .slice a1 m1 c1, .slice a2 m2 c2, .slice a3 m3 c3, .slice none 0 0] := g7.set 3 _
  have k8 := k7.setCell ⟨g, 3, none⟩ (.slice a3 m3 c3) (.inr HG.out)
  have s9 : Off 9 (fun k => k = g) w7 := off_blk g7 (by decide)
  have kx : Kept (fun k => k = g) w7 (w7.setCell ⟨g, 3, none⟩ (.slice a3 m3 c3)) := (Kept.refl _ _).setCell ⟨g, 3, none⟩ _ (.inl rfl)
  generalize (w7.setCell ⟨g, 3, none⟩ (.slice a3 m3 c3)) = w8 at h8 g8 k8 kx  ⊢
  clear h7 g7 k7 z f s9 kx
  have CC := list_rd w8 h8
  rw [mu_keep (e := 2) (by decide)] at CC
  generalize listOf _ = L4 at CC
  go_at_call 56
  refine CC.mono ?_
  rintro r w9 ⟨v4, rfl, T4, h9, q9x⟩
  obtain ⟨a4, c4, rfl, hy4⟩ := id T4
  clear T4 hy4
  generalize L4.length = m4
  have g9 := g8.kept q9x hgR
  have k9 := k8.trans q9x
  clear h8 g8 k8 q9x CC
  have z := g9.cellv 4 rfl
  have f := g9.frozen 4
  go_wp2_with fail
  have h10 := h9.other g9 (by decide) (by decide) 4 (.slice a4 m4 c4)
  have g10 : Blk (w9.setCell ⟨g, 4, none⟩ (.slice a4 m4 c4)) g 51 #[.slice a0 m0 c0, .slice a1 m1 c1, .slice a2 m2 c2, .slice a3 m3 c3, .slice a4 m4 c4] := g9.set 4 _
  have k10 := k9.setCell ⟨g, 4, none⟩ (.slice a4 m4 c4) (.inr HG.out)
  have s9 : Off 9 (fun k => k = g) w9 := off_blk g9 (by decide)
  have kx : Kept (fun k => k = g) w9 (w9.setCell ⟨g, 4, none⟩ (.slice a4 m4 c4)) := (Kept.refl _ _).setCell ⟨g, 4, none⟩ _ (.inl rfl)
  generalize (w9.setCell ⟨g, 4, none⟩ (.slice a4 m4 c4)) = w10 at h10 g10 k10 kx  ⊢
  clear h9 g9 k9 z f s9 kx
  have F := fine_ok w10 h10
  rw [show ((2 : Int) == 0) = false from rfl] at F
  have R3 : Hd (Told B R A w w10 2 ⟨C.total, C.period, C.perSeat, C.most, C.levels, addRule (ruleOf ws) C.schemas⟩) := ⟨⟨_, h10⟩, fun h => absurd h (by decide), H.kt k10⟩
  clear h10 g10 k10 hL hS hA hD hb o9 o26 o39 o42 o73 H K
  go_at_call 47
  refine F.mono ?_
  rintro e w' ⟨rfl, hw⟩
  obtain rfl := hw.symm
  go_wp2_with fail
  (try simp only [Exit.inBlock, Exit.then])
  refine bodyPost_ret (results_none rfl _ _ _) rfl ?_
  exact ⟨rfl, R3.out⟩

set_option maxRecDepth 20000 in
set_option maxHeartbeats 4000000 in
theorem rule_1 {B R A : Nat} {C : Cf} {ws : List ByteArray} (w : World) (H : Rd B w R A ws 0) (K : Cfg B w A C) (hF : C.schemas.length ≤ 32) (h5 : ((ws.length : Int) == 5) = true) (hm0 : C.schemas = []) :
    Calls Tryd.prog 36 #[.pointer (some ⟨R, 0, none⟩)] w fun r w' => r = .returned (.tuple #[]) ∧ Told B R A w w' (ruleE C ws) ⟨C.total, C.period, C.perSeat, C.most, C.levels, addRule (ruleOf ws) C.schemas⟩ := by
  obtain ⟨i0, hi, hz0, hz1, hz2⟩ := info_parts info73
  obtain ⟨a, c, hb, hr, hc, h6⟩ := H.ex
  have c0 := hb.cellv 0 rfl
  have c1 := hb.cellv 1 rfl
  have o9 : Off 9 (fun k => k = R) w := off_blk hb (by decide)
  have o26 : Off 30 (fun k => k = R) w := off_blk hb (by decide)
  have o39 : Off 46 (fun k => k = R) w := off_blk hb (by decide)
  have o42 : Off 49 (fun k => k = R) w := off_blk hb (by decide)
  have o73 : Off 51 (fun k => k = R) w := off_blk hb (by decide)
  obtain ⟨vL, vS, V, hA, hL, hS, hD⟩ := K.ex
  have hRA : R ≠ A := hb.ne hA (by decide)
  have HBA := K.le
  have HF : Hd (C.schemas.length ≤ 32) := ⟨hF⟩
  clear hr hc
  obtain ⟨aL, cL, rfl⟩ := own_form hS.own
  have hl0 : C.schemas.length = 0 := by rw [hm0]; rfl
  rw [hl0] at hA
  have a5 := hA.cellv 5 rfl
  have EE : ruleW C ws = 2 := by
    unfold ruleW
    rw [h5, hl0, Bool.true_and, show decide (0 < ((0 : Nat) : Int)) = false from rfl, ifE_no, mu_keep (e := 2) (by decide), mu_keep (e := 2) (by decide), mu_keep (e := 2) (by decide), mu_keep (e := 2) (by decide), mu_keep (e := 2) (by decide)]
  have hE : ruleE C ws = 2 := by unfold ruleE; rw [EE, mu_keep (e := 2) (by decide)]
  rw [hE]
  have M1 := must_ok w H false 2
  rw [mu_zero, ifE_no] at M1
  clear hF
  have nonneg : ∀ n : Nat, (n : Int) > 0 ↔ 0 < n := fun n => by omega
  clear nonneg
  go_enter Tryd.func36, Tryd.ntmps36
  go_wp2_with fail
  go_at_call 37
  refine M1.mono ?_
  rintro r v0 ⟨rfl, hv0, kv0⟩
  clear M1 c0 c1 a5
  have hgR0 : v0.heap.size ≠ R := fun e => by have := hv0.lt; omega
  have hgA0 : v0.heap.size ≠ A := fun e => by have := (hA.off kv0 o26).lt; omega
  obtain ⟨w0, hw0⟩ : ∃ w0, w0 = v0.alloc (.cells #[.slice none 0 0, .slice none 0 0, .slice none 0 0, .slice none 0 0, .slice none 0 0] 51) := ⟨_, rfl⟩
  have b0 : Below v0.heap.size v0 w0 := by rw [hw0]; exact (Below.refl _ _).alloc (Nat.le_refl _) _
  have g0 : Blk w0 v0.heap.size 51 #[.slice none 0 0, .slice none 0 0, .slice none 0 0, .slice none 0 0, .slice none 0 0] := by rw [hw0]; exact Blk.new v0 51 _
  have h0 := hv0.grown b0
  have k0 : Kept (fun k => k = R) w w0 := kv0.trans (Kept.of_below b0 _)
  go_wp2_with fail
  rw [← hw0]
  obtain ⟨g, hg⟩ : ∃ g, g = v0.heap.size := ⟨_, rfl⟩
  rw [← hg] at g0 hgR0 hgA0 ⊢
  have HG : Hd (w.heap.size ≤ g) := ⟨by have := kv0.size; omega⟩
  have hgR := hgR0
  have hgA := hgA0
  have hRg := hgR.symm
  have hAg := hgA.symm
  clear hw0 hg b0 hgR0 hgA0 hv0 kv0
  have CC := list_rd w0 h0
  rw [mu_keep (e := 2) (by decide)] at CC
  generalize listOf _ = L0 at CC
  go_at_call 56
  refine CC.mono ?_
  rintro r w1 ⟨v0, rfl, T0, h1, q1x⟩
  obtain ⟨a0, c0, rfl, hy0⟩ := id T0
  clear T0 hy0
  generalize L0.length = m0
  have g1 := g0.kept q1x hgR
  have k1 := k0.trans q1x
  clear h0 g0 k0 q1x CC
  have z := g1.cellv 0 rfl
  have f := g1.frozen 0
  go_wp2_with fail
  have h2 := h1.other g1 (by decide) (by decide) 0 (.slice a0 m0 c0)
  have g2 : Blk (w1.setCell ⟨g, 0, none⟩ (.slice a0 m0 c0)) g 51 #[.slice a0 m0 c0, .slice none 0 0, .slice none 0 0, .slice none 0 0, .slice none 0 0] := g1.set 0 _
  have k2 := k1.setCell ⟨g, 0, none⟩ (.slice a0 m0 c0) (.inr HG.out)
  have s9 : Off 9 (fun k => k = g) w1 := off_blk g1 (by decide)
  have kx : Kept (fun k => k = g) w1 (w1.setCell ⟨g, 0, none⟩ (.slice a0 m0 c0)) := (Kept.refl _ _).setCell ⟨g, 0, none⟩ _ (.inl rfl)
  generalize (w1.setCell ⟨g, 0, none⟩ (.slice a0 m0 c0)) = w2 at h2 g2 k2 kx  ⊢
  clear h1 g1 k1 z f s9 kx
  have CC := list_rd w2 h2
  rw [mu_keep (e := 2) (by decide)] at CC
  generalize listOf _ = L1 at CC
  go_at_call 56
  refine CC.mono ?_
  rintro r w3 ⟨v1, rfl, T1, h3, q3x⟩
  obtain ⟨a1, c1, rfl, hy1⟩ := id T1
  clear T1 hy1
  generalize L1.length = m1
  have g3 := g2.kept q3x hgR
  have k3 := k2.trans q3x
  clear h2 g2 k2 q3x CC
  have z := g3.cellv 1 rfl
  have f := g3.frozen 1
  go_wp2_with fail
  have h4 := h3.other g3 (by decide) (by decide) 1 (.slice a1 m1 c1)
  have g4 : Blk (w3.setCell ⟨g, 1, none⟩ (.slice a1 m1 c1)) g 51 #[.slice a0 m0 c0, .slice a1 m1 c1, .slice none 0 0, .slice none 0 0, .slice none 0 0] := g3.set 1 _
  have k4 := k3.setCell ⟨g, 1, none⟩ (.slice a1 m1 c1) (.inr HG.out)
  have s9 : Off 9 (fun k => k = g) w3 := off_blk g3 (by decide)
  have kx : Kept (fun k => k = g) w3 (w3.setCell ⟨g, 1, none⟩ (.slice a1 m1 c1)) := (Kept.refl _ _).setCell ⟨g, 1, none⟩ _ (.inl rfl)
  generalize (w3.setCell ⟨g, 1, none⟩ (.slice a1 m1 c1)) = w4 at h4 g4 k4 kx  ⊢
  clear h3 g3 k3 z f s9 kx
  have CC := list_rd w4 h4
  rw [mu_keep (e := 2) (by decide)] at CC
  generalize listOf _ = L2 at CC
  go_at_call 56
  refine CC.mono ?_
  rintro r w5 ⟨v2, rfl, T2, h5, q5x⟩
  obtain ⟨a2, c2, rfl, hy2⟩ := id T2
  clear T2 hy2
  generalize L2.length = m2
  have g5 := g4.kept q5x hgR
  have k5 := k4.trans q5x
  clear h4 g4 k4 q5x CC
  have z := g5.cellv 2 rfl
  have f := g5.frozen 2
  go_wp2_with fail
  have h6 := h5.other g5 (by decide) (by decide) 2 (.slice a2 m2 c2)
  have g6 : Blk (w5.setCell ⟨g, 2, none⟩ (.slice a2 m2 c2)) g 51 #[.slice a0 m0 c0, .slice a1 m1 c1, .slice a2 m2 c2, .slice none 0 0, .slice none 0 0] := g5.set 2 _
  have k6 := k5.setCell ⟨g, 2, none⟩ (.slice a2 m2 c2) (.inr HG.out)
  have s9 : Off 9 (fun k => k = g) w5 := off_blk g5 (by decide)
  have kx : Kept (fun k => k = g) w5 (w5.setCell ⟨g, 2, none⟩ (.slice a2 m2 c2)) := (Kept.refl _ _).setCell ⟨g, 2, none⟩ _ (.inl rfl)
  generalize (w5.setCell ⟨g, 2, none⟩ (.slice a2 m2 c2)) = w6 at h6 g6 k6 kx  ⊢
  clear h5 g5 k5 z f s9 kx
  have CC := list_rd w6 h6
  rw [mu_keep (e := 2) (by decide)] at CC
  generalize listOf _ = L3 at CC
  go_at_call 56
  refine CC.mono ?_
  rintro r w7 ⟨v3, rfl, T3, h7, q7x⟩
  obtain ⟨a3, c3, rfl, hy3⟩ := id T3
  clear T3 hy3
  generalize L3.length = m3
  have g7 := g6.kept q7x hgR
  have k7 := k6.trans q7x
  clear h6 g6 k6 q7x CC
  have z := g7.cellv 3 rfl
  have f := g7.frozen 3
  go_wp2_with fail
  have h8 := h7.other g7 (by decide) (by decide) 3 (.slice a3 m3 c3)
  have g8 : Blk (w7.setCell ⟨g, 3, none⟩ (.slice a3 m3 c3)) g 51 #[.slice a0 m0 c0, .slice a1 m1 c1, .slice a2 m2 c2, .slice a3 m3 c3, .slice none 0 0] := g7.set 3 _
  have k8 := k7.setCell ⟨g, 3, none⟩ (.slice a3 m3 c3) (.inr HG.out)
  have s9 : Off 9 (fun k => k = g) w7 := off_blk g7 (by decide)
  have kx : Kept (fun k => k = g) w7 (w7.setCell ⟨g, 3, none⟩ (.slice a3 m3 c3)) := (Kept.refl _ _).setCell ⟨g, 3, none⟩ _ (.inl rfl)
  generalize (w7.setCell ⟨g, 3, none⟩ (.slice a3 m3 c3)) = w8 at h8 g8 k8 kx  ⊢
  clear h7 g7 k7 z f s9 kx
  have CC := list_rd w8 h8
  rw [mu_keep (e := 2) (by decide)] at CC
  generalize listOf _ = L4 at CC
  go_at_call 56
  refine CC.mono ?_
  rintro r w9 ⟨v4, rfl, T4, h9, q9x⟩
  obtain ⟨a4, c4, rfl, hy4⟩ := id T4
  clear T4 hy4
  generalize L4.length = m4
  have g9 := g8.kept q9x hgR
  have k9 := k8.trans q9x
  clear h8 g8 k8 q9x CC
  have z := g9.cellv 4 rfl
  have f := g9.frozen 4
  go_wp2_with fail
  have h10 := h9.other g9 (by decide) (by decide) 4 (.slice a4 m4 c4)
  have g10 : Blk (w9.setCell ⟨g, 4, none⟩ (.slice a4 m4 c4)) g 51 #[.slice a0 m0 c0, .slice a1 m1 c1, .slice a2 m2 c2, .slice a3 m3 c3, .slice a4 m4 c4] := g9.set 4 _
  have k10 := k9.setCell ⟨g, 4, none⟩ (.slice a4 m4 c4) (.inr HG.out)
  have s9 : Off 9 (fun k => k = g) w9 := off_blk g9 (by decide)
  have kx : Kept (fun k => k = g) w9 (w9.setCell ⟨g, 4, none⟩ (.slice a4 m4 c4)) := (Kept.refl _ _).setCell ⟨g, 4, none⟩ _ (.inl rfl)
  generalize (w9.setCell ⟨g, 4, none⟩ (.slice a4 m4 c4)) = w10 at h10 g10 k10 kx  ⊢
  clear h9 g9 k9 z f s9 kx
  have F := fine_ok w10 h10
  rw [show ((2 : Int) == 0) = false from rfl] at F
  have R3 : Hd (Told B R A w w10 2 ⟨C.total, C.period, C.perSeat, C.most, C.levels, addRule (ruleOf ws) C.schemas⟩) := ⟨⟨_, h10⟩, fun h => absurd h (by decide), H.kt k10⟩
  clear h10 g10 k10 hL hS hA hD hb o9 o26 o39 o42 o73 H K
  go_at_call 47
  refine F.mono ?_
  rintro e w' ⟨rfl, hw⟩
  obtain rfl := hw.symm
  go_wp2_with fail
  (try simp only [Exit.inBlock, Exit.then])
  refine bodyPost_ret (results_none rfl _ _ _) rfl ?_
  exact ⟨rfl, R3.out⟩

set_option maxRecDepth 20000 in
set_option maxHeartbeats 4000000 in
theorem rule_2 {B R A : Nat} {C : Cf} {ws : List ByteArray} (w : World) (H : Rd B w R A ws 0) (K : Cfg B w A C) (hF : C.schemas.length ≤ 32) (h5 : ((ws.length : Int) == 5) = true) {ini : List Sc} {s : Sc} (hC : C.schemas = ini ++ [s]) :
    Calls Tryd.prog 36 #[.pointer (some ⟨R, 0, none⟩)] w fun r w' => r = .returned (.tuple #[]) ∧ Told B R A w w' (ruleE C ws) ⟨C.total, C.period, C.perSeat, C.most, C.levels, addRule (ruleOf ws) C.schemas⟩ := by
  obtain ⟨i0, hi, hz0, hz1, hz2⟩ := info_parts info73
  obtain ⟨a, c, hb, hr, hc, h6⟩ := H.ex
  have c0 := hb.cellv 0 rfl
  have c1 := hb.cellv 1 rfl
  have o9 : Off 9 (fun k => k = R) w := off_blk hb (by decide)
  have o26 : Off 30 (fun k => k = R) w := off_blk hb (by decide)
  have o39 : Off 46 (fun k => k = R) w := off_blk hb (by decide)
  have o42 : Off 49 (fun k => k = R) w := off_blk hb (by decide)
  have o73 : Off 51 (fun k => k = R) w := off_blk hb (by decide)
  obtain ⟨vL, vS, V, hA, hL, hS, hD⟩ := K.ex
  have hRA : R ≠ A := hb.ne hA (by decide)
  have HBA := K.le
  have HF : Hd (C.schemas.length ≤ 32) := ⟨hF⟩
  clear hr hc
  rw [hC] at hS
  have hlen : (ini ++ [s]).length = ini.length + 1 := by simp
  obtain ⟨Vi, vr, rfl, hV⟩ : ∃ Vi vr, V = Vi ++ [vr] ∧ Vi.length = ini.length := by
    have hl := hS.len
    rw [hlen] at hl
    have hne : V ≠ [] := fun h => by rw [h] at hl; simp at hl
    exact ⟨V.dropLast, V.getLast hne, (List.dropLast_concat_getLast hne).symm, by rw [List.length_dropLast]; omega⟩
  obtain ⟨sb, cS, rfl⟩ : ∃ sb cS, vS = .slice (some ⟨sb, 0, none⟩) (ini.length + 1) cS := by
    rcases hS.own.2 with ⟨_, e⟩ | ⟨g', cap', cur', e, _⟩
    · rw [hlen] at e; omega
    · exact ⟨g', cap', by rw [e, hlen]⟩
  obtain ⟨rcs, hro, hrv⟩ : RlOwn B w vr s.rules := by
    have h1 := hS.rls ini.length (by simp) (by simp [hV])
    have e1 : (ini ++ [s])[ini.length] = s := by simp
    have e2 : (Vi ++ [vr])[ini.length]'(by simp [hV]) = vr := by
      rw [List.getElem_append_right (by omega)]
      simp [hV]
    rw [e1, e2] at h1
    exact h1
  obtain ⟨ar, cr, rfl⟩ := own_form hro
  have a5 := hA.cellv 5 rfl
  have hml : ini.length ≤ 31 := by rw [hC, hlen] at hF; omega
  have hlast : lastRules C = s.rules := by unfold lastRules; rw [hC, List.getLast?_append]; simp
  unfold ruleE ruleW ruleOf
  rw [h5, hC, hlen, hlast, Bool.true_and, show decide (0 < ((ini.length + 1 : Nat) : Int)) = true from decide_eq_true (by omega), ifE_yes, mu_zero]
  generalize hq0 : listOk (gt ws 0) = q0
  generalize hq1 : listOk (gt ws 1) = q1
  generalize hq2 : listOk (gt ws 2) = q2
  generalize hq3 : listOk (gt ws 3) = q3
  generalize hq4 : listOk (gt ws 4) = q4
  generalize hl0 : listOf (gt ws 0) = L0
  generalize hl1 : listOf (gt ws 1) = L1
  generalize hl2 : listOf (gt ws 2) = L2
  generalize hl3 : listOf (gt ws 3) = L3
  generalize hl4 : listOf (gt ws 4) = L4
  generalize hE1 : mu (mu (mu (mu (ifE q0 2) (ifE q1 2)) (ifE q2 2)) (ifE q3 2)) (ifE q4 2) = E1
  have HE1 : Hd (mu (mu (mu (mu (ifE q0 2) (ifE q1 2)) (ifE q2 2)) (ifE q3 2)) (ifE q4 2) = E1) := ⟨hE1⟩
  generalize hE : mu E1 (ifE (decide ((s.rules.length : Int) < 8)) 3) = E
  have HE : Hd (mu E1 (ifE (decide ((s.rules.length : Int) < 8)) 3) = E) := ⟨hE⟩
  have M1 := must_ok w H true 2
  rw [mu_yes] at M1
  have HV : Hd (Vi.length = ini.length) := ⟨hV⟩
  have HS : Hd (ScOwn B w (.slice (some ⟨sb, 0, none⟩) (ini.length + 1) cS) (ini ++ [s]) (Vi ++ [.slice ar s.rules.length cr])) := ⟨hS⟩
  have HRO : Hd (w.ownsRow B 51 5 (.slice ar s.rules.length cr) s.rules.length rcs) := ⟨hro⟩
  have HRV : Hd (RlsV B w rcs s.rules) := ⟨hrv⟩
  have HD : Hd (Dj (Vi ++ [.slice ar s.rules.length cr])) := ⟨hD⟩
  clear hE hE1 hS hro hrv hD hC hlen hlast hV
  generalize hrl : s.rules.length = nr at *
  have HNR : Hd (s.rules.length = nr) := ⟨hrl⟩
  clear hrl
  generalize hmm : ini.length = m at *
  have HM : Hd (ini.length = m) := ⟨hmm⟩
  clear hmm
  clear hF
  have nonneg : ∀ n : Nat, (n : Int) > 0 ↔ 0 < n := fun n => by omega
  clear nonneg
  go_enter Tryd.func36, Tryd.ntmps36
  go_wp2_with fail
  go_at_call 37
  refine M1.mono ?_
  rintro r v0 ⟨rfl, hv0, kv0⟩
  clear M1 c0 c1 a5
  have hgR0 : v0.heap.size ≠ R := fun e => by have := hv0.lt; omega
  have hgA0 : v0.heap.size ≠ A := fun e => by have := (hA.off kv0 o26).lt; omega
  obtain ⟨w0, hw0⟩ : ∃ w0, w0 = v0.alloc (.cells #[.slice none 0 0, .slice none 0 0, .slice none 0 0, .slice none 0 0, .slice none 0 0] 51) := ⟨_, rfl⟩
  have b0 : Below v0.heap.size v0 w0 := by rw [hw0]; exact (Below.refl _ _).alloc (Nat.le_refl _) _
  have g0 : Blk w0 v0.heap.size 51 #[.slice none 0 0, .slice none 0 0, .slice none 0 0, .slice none 0 0, .slice none 0 0] := by rw [hw0]; exact Blk.new v0 51 _
  have h0 := hv0.grown b0
  have k0 : Kept (fun k => k = R) w w0 := kv0.trans (Kept.of_below b0 _)
  go_wp2_with fail
  rw [← hw0]
  obtain ⟨g, hg⟩ : ∃ g, g = v0.heap.size := ⟨_, rfl⟩
  rw [← hg] at g0 hgR0 hgA0 ⊢
  have HG : Hd (w.heap.size ≤ g) := ⟨by have := kv0.size; omega⟩
  have hgR := hgR0
  have hgA := hgA0
  have hRg := hgR.symm
  have hAg := hgA.symm
  clear hw0 hg b0 hgR0 hgA0 hv0 kv0
  have CC := list_rd w0 h0
  rw [hq0, hl0, mu_zero] at CC
  go_at_call 56
  refine CC.mono ?_
  rintro r w1 ⟨v0, rfl, T0, h1, q1x⟩
  obtain ⟨a0, c0, rfl, hy0⟩ := id T0
  obtain ⟨m0, hm0⟩ : ∃ m0, m0 = L0.length := ⟨_, rfl⟩
  rw [← hm0] at T0 ⊢
  have HM0 : Hd (m0 = L0.length) := ⟨hm0⟩
  clear hm0 hy0
  have g1 := g0.kept q1x hgR
  have k1 := k0.trans q1x
  clear h0 g0 k0 q1x CC
  have z := g1.cellv 0 rfl
  have f := g1.frozen 0
  go_wp2_with fail
  have h2 := h1.other g1 (by decide) (by decide) 0 (.slice a0 m0 c0)
  have g2 : Blk (w1.setCell ⟨g, 0, none⟩ (.slice a0 m0 c0)) g 51 #[.slice a0 m0 c0, .slice none 0 0, .slice none 0 0, .slice none 0 0, .slice none 0 0] := g1.set 0 _
  have k2 := k1.setCell ⟨g, 0, none⟩ (.slice a0 m0 c0) (.inr HG.out)
  have s9 : Off 9 (fun k => k = g) w1 := off_blk g1 (by decide)
  have kx : Kept (fun k => k = g) w1 (w1.setCell ⟨g, 0, none⟩ (.slice a0 m0 c0)) := (Kept.refl _ _).setCell ⟨g, 0, none⟩ _ (.inl rfl)
  replace T0 := T0.kept kx s9
  generalize (w1.setCell ⟨g, 0, none⟩ (.slice a0 m0 c0)) = w2 at h2 g2 k2 kx T0 ⊢
  clear h1 g1 k1 z f s9 kx
  have CC := list_rd w2 h2
  rw [gt_tail, hq1, hl1] at CC
  go_at_call 56
  refine CC.mono ?_
  rintro r w3 ⟨v1, rfl, T1, h3, q3x⟩
  obtain ⟨a1, c1, rfl, hy1⟩ := id T1
  replace T0 := T0.kept q3x h2.free.s9
  obtain ⟨m1, hm1⟩ : ∃ m1, m1 = L1.length := ⟨_, rfl⟩
  rw [← hm1] at T1 ⊢
  have HM1 : Hd (m1 = L1.length) := ⟨hm1⟩
  clear hm1 hy1
  have g3 := g2.kept q3x hgR
  have k3 := k2.trans q3x
  clear h2 g2 k2 q3x CC
  have z := g3.cellv 1 rfl
  have f := g3.frozen 1
  go_wp2_with fail
  have h4 := h3.other g3 (by decide) (by decide) 1 (.slice a1 m1 c1)
  have g4 : Blk (w3.setCell ⟨g, 1, none⟩ (.slice a1 m1 c1)) g 51 #[.slice a0 m0 c0, .slice a1 m1 c1, .slice none 0 0, .slice none 0 0, .slice none 0 0] := g3.set 1 _
  have k4 := k3.setCell ⟨g, 1, none⟩ (.slice a1 m1 c1) (.inr HG.out)
  have s9 : Off 9 (fun k => k = g) w3 := off_blk g3 (by decide)
  have kx : Kept (fun k => k = g) w3 (w3.setCell ⟨g, 1, none⟩ (.slice a1 m1 c1)) := (Kept.refl _ _).setCell ⟨g, 1, none⟩ _ (.inl rfl)
  replace T0 := T0.kept kx s9
  replace T1 := T1.kept kx s9
  generalize (w3.setCell ⟨g, 1, none⟩ (.slice a1 m1 c1)) = w4 at h4 g4 k4 kx T0 T1 ⊢
  clear h3 g3 k3 z f s9 kx
  have CC := list_rd w4 h4
  rw [gt_tail, gt_tail, hq2, hl2] at CC
  go_at_call 56
  refine CC.mono ?_
  rintro r w5 ⟨v2, rfl, T2, h5, q5x⟩
  obtain ⟨a2, c2, rfl, hy2⟩ := id T2
  replace T0 := T0.kept q5x h4.free.s9
  replace T1 := T1.kept q5x h4.free.s9
  obtain ⟨m2, hm2⟩ : ∃ m2, m2 = L2.length := ⟨_, rfl⟩
  rw [← hm2] at T2 ⊢
  have HM2 : Hd (m2 = L2.length) := ⟨hm2⟩
  clear hm2 hy2
  have g5 := g4.kept q5x hgR
  have k5 := k4.trans q5x
  clear h4 g4 k4 q5x CC
  have z := g5.cellv 2 rfl
  have f := g5.frozen 2
  go_wp2_with fail
  have h6 := h5.other g5 (by decide) (by decide) 2 (.slice a2 m2 c2)
  have g6 : Blk (w5.setCell ⟨g, 2, none⟩ (.slice a2 m2 c2)) g 51 #[.slice a0 m0 c0, .slice a1 m1 c1, .slice a2 m2 c2, .slice none 0 0, .slice none 0 0] := g5.set 2 _
  have k6 := k5.setCell ⟨g, 2, none⟩ (.slice a2 m2 c2) (.inr HG.out)
  have s9 : Off 9 (fun k => k = g) w5 := off_blk g5 (by decide)
  have kx : Kept (fun k => k = g) w5 (w5.setCell ⟨g, 2, none⟩ (.slice a2 m2 c2)) := (Kept.refl _ _).setCell ⟨g, 2, none⟩ _ (.inl rfl)
  replace T0 := T0.kept kx s9
  replace T1 := T1.kept kx s9
  replace T2 := T2.kept kx s9
  generalize (w5.setCell ⟨g, 2, none⟩ (.slice a2 m2 c2)) = w6 at h6 g6 k6 kx T0 T1 T2 ⊢
  clear h5 g5 k5 z f s9 kx
  have CC := list_rd w6 h6
  rw [gt_tail, gt_tail, gt_tail, hq3, hl3] at CC
  go_at_call 56
  refine CC.mono ?_
  rintro r w7 ⟨v3, rfl, T3, h7, q7x⟩
  obtain ⟨a3, c3, rfl, hy3⟩ := id T3
  replace T0 := T0.kept q7x h6.free.s9
  replace T1 := T1.kept q7x h6.free.s9
  replace T2 := T2.kept q7x h6.free.s9
  obtain ⟨m3, hm3⟩ : ∃ m3, m3 = L3.length := ⟨_, rfl⟩
  rw [← hm3] at T3 ⊢
  have HM3 : Hd (m3 = L3.length) := ⟨hm3⟩
  clear hm3 hy3
  have g7 := g6.kept q7x hgR
  have k7 := k6.trans q7x
  clear h6 g6 k6 q7x CC
  have z := g7.cellv 3 rfl
  have f := g7.frozen 3
  go_wp2_with fail
  have h8 := h7.other g7 (by decide) (by decide) 3 (.slice a3 m3 c3)
  have g8 : Blk (w7.setCell ⟨g, 3, none⟩ (.slice a3 m3 c3)) g 51 #[.slice a0 m0 c0, .slice a1 m1 c1, .slice a2 m2 c2, .slice a3 m3 c3, .slice none 0 0] := g7.set 3 _
  have k8 := k7.setCell ⟨g, 3, none⟩ (.slice a3 m3 c3) (.inr HG.out)
  have s9 : Off 9 (fun k => k = g) w7 := off_blk g7 (by decide)
  have kx : Kept (fun k => k = g) w7 (w7.setCell ⟨g, 3, none⟩ (.slice a3 m3 c3)) := (Kept.refl _ _).setCell ⟨g, 3, none⟩ _ (.inl rfl)
  replace T0 := T0.kept kx s9
  replace T1 := T1.kept kx s9
  replace T2 := T2.kept kx s9
  replace T3 := T3.kept kx s9
  generalize (w7.setCell ⟨g, 3, none⟩ (.slice a3 m3 c3)) = w8 at h8 g8 k8 kx T0 T1 T2 T3 ⊢
  clear h7 g7 k7 z f s9 kx
  have CC := list_rd w8 h8
  rw [gt_tail, gt_tail, gt_tail, gt_tail, hq4, hl4] at CC
  go_at_call 56
  refine CC.mono ?_
  rintro r w9 ⟨v4, rfl, T4, h9, q9x⟩
  obtain ⟨a4, c4, rfl, hy4⟩ := id T4
  replace T0 := T0.kept q9x h8.free.s9
  replace T1 := T1.kept q9x h8.free.s9
  replace T2 := T2.kept q9x h8.free.s9
  replace T3 := T3.kept q9x h8.free.s9
  obtain ⟨m4, hm4⟩ : ∃ m4, m4 = L4.length := ⟨_, rfl⟩
  rw [← hm4] at T4 ⊢
  have HM4 : Hd (m4 = L4.length) := ⟨hm4⟩
  clear hm4 hy4
  have g9 := g8.kept q9x hgR
  have k9 := k8.trans q9x
  clear h8 g8 k8 q9x CC
  have z := g9.cellv 4 rfl
  have f := g9.frozen 4
  go_wp2_with fail
  have h10 := h9.other g9 (by decide) (by decide) 4 (.slice a4 m4 c4)
  have g10 : Blk (w9.setCell ⟨g, 4, none⟩ (.slice a4 m4 c4)) g 51 #[.slice a0 m0 c0, .slice a1 m1 c1, .slice a2 m2 c2, .slice a3 m3 c3, .slice a4 m4 c4] := g9.set 4 _
  have k10 := k9.setCell ⟨g, 4, none⟩ (.slice a4 m4 c4) (.inr HG.out)
  have s9 : Off 9 (fun k => k = g) w9 := off_blk g9 (by decide)
  have kx : Kept (fun k => k = g) w9 (w9.setCell ⟨g, 4, none⟩ (.slice a4 m4 c4)) := (Kept.refl _ _).setCell ⟨g, 4, none⟩ _ (.inl rfl)
  replace T0 := T0.kept kx s9
  replace T1 := T1.kept kx s9
  replace T2 := T2.kept kx s9
  replace T3 := T3.kept kx s9
  replace T4 := T4.kept kx s9
  generalize (w9.setCell ⟨g, 4, none⟩ (.slice a4 m4 c4)) = w10 at h10 g10 k10 kx T0 T1 T2 T3 T4 ⊢
  clear h9 g9 k9 z f s9 kx
  rw [HE1.out] at h10
  have F := fine_ok w10 h10
  go_at_call 47
  refine F.mono ?_
  rintro e w' ⟨rfl, hw⟩
  obtain rfl := hw.symm
  clear F
  by_cases hE1 : E1 = 0
  case neg =>
    have hE2 : E = E1 := by rw [← HE.out, mu_keep hE1]
    have e0 : (E1 == 0) = false := by simpa using hE1
    have R3 : Hd (Told B R A w w10 E ⟨C.total, C.period, C.perSeat, C.most, C.levels, addRule ⟨L0, L1, L2, L3, L4⟩ (ini ++ [s])⟩) := ⟨⟨_, by rw [hE2]; exact h10⟩, fun h => absurd (hE2 ▸ h) hE1, H.kt k10⟩
    clear h10 g10 k10 hL hA hb o9 o26 o39 o42 o73 H K HS HRO HRV HD HE HE1 T0 T1 T2 T3 T4 hE2
    go_wp2_with fail
    (try simp only [Exit.inBlock, Exit.then])
    refine bodyPost_ret (results_none rfl _ _ _) rfl ?_
    exact ⟨rfl, R3.out⟩
  have S5 := HS.out.off k10 o9 o42 o73
  obtain ⟨ax, cx, hbx, -⟩ := h10.ex
  have d1 := hbx.cellv 1 rfl
  have hAx := hA.off k10 o26
  have d5 := hAx.cellv 5 rfl
  obtain ⟨curS, hsb⟩ := owns_type S5.own (g := sb) rfl
  have x4 : w10.cell? ⟨sb, m * 5 + 4, none⟩ = some (.slice ar nr cr) := by
    have so : w10.ownsRow B 49 5 (.slice (some ⟨sb, 0, none⟩) (m + 1) cS) (m + 1) (scCs (ini ++ [s]) (Vi ++ [.slice ar nr cr])) := by have := S5.own; rwa [show (ini ++ [s]).length = m + 1 by simp [HM.out]] at this
    have hvi := HV.out.trans HM.out.symm
    rw [so.cellAt _ (by omega), scCs_append _ _ _ _ hvi, List.getElem?_append_right (by rw [scCs_len _ _ hvi, HM.out]; omega), scCs_len _ _ hvi, HM.out, show m * 5 + 4 - m * 5 = 4 by omega]
    rfl
  have i1 : ((m : Int) + 1 - 1) = (m : Int) := by omega
  have i2 : (m : Int) < (m : Int) + 1 := by omega
  have CC := must_ok w10 h10 (decide ((nr : Int) < 8)) 3
  rw [hE1] at CC
  have HEz := HE.out
  rw [hE1] at HEz
  rw [HEz] at CC
  subst hE1
  clear hbx hAx S5 hsb
  go_wp2_with fail
  go_at_call 37
  refine CC.mono ?_
  rintro r w9 ⟨rfl, h9, qq⟩
  have g9 := g10.kept qq hgR
  have k9 := k10.trans qq
  have t9 := h10.free.s9
  replace T0 := T0.kept qq t9
  replace T1 := T1.kept qq t9
  replace T2 := T2.kept qq t9
  replace T3 := T3.kept qq t9
  replace T4 := T4.kept qq t9
  clear h10 g10 k10 qq CC d1 d5 x4 t9
  have F := fine_ok w9 h9
  by_cases hE0 : E = 0
  · subst hE0
    have hn8 : (nr : Int) < 8 := of_decide_eq_true ((ifE_eq_zero (by decide)).1 (mu_eq_zero.1 HE.out).2)
    have hn8' : nr < 8 := by omega
    have KW := H.kt k9
    have hA9 := hA.off k9 o26
    have hL9 := hL.off k9 o39
    have hS9 := HS.out.off k9 o9 o42 o73
    have hR9 := owns_off HRO.out k9 o73
    have hV9 := RlsV.kept k9 o9 _ _ HRV.out
    obtain ⟨curS, hsb⟩ := owns_type hS9.own (g := sb) rfl
    have x4 : w9.cell? ⟨sb, m * 5 + 4, none⟩ = some (.slice ar nr cr) := by
      have so : w9.ownsRow B 49 5 (.slice (some ⟨sb, 0, none⟩) (m + 1) cS) (m + 1) (scCs (ini ++ [s]) (Vi ++ [.slice ar nr cr])) := by have := hS9.own; rwa [show (ini ++ [s]).length = m + 1 by simp [HM.out]] at this
      have hvi := HV.out.trans HM.out.symm
      rw [so.cellAt _ (by omega), scCs_append _ _ _ _ hvi, List.getElem?_append_right (by rw [scCs_len _ _ hvi, HM.out]; omega), scCs_len _ _ hvi, HM.out, show m * 5 + 4 - m * 5 = 4 by omega]
      rfl
    have fx : w9.frozen? ⟨sb, m * 5 + 4, none⟩ = false := hsb.frozen _
    have hgs : g ≠ sb := g9.ne hsb (by decide)
    have z0 := g9.cellv 0 rfl
    have z1 := g9.cellv 1 rfl
    have z2 := g9.cellv 2 rfl
    have z3 := g9.cellv 3 rfl
    have z4 := g9.cellv 4 rfl
    have hg9 := g9.lt
    have hsl := hsb.lt
    have OWN : (w9.drew.alloc (.cells #[.slice a0 m0 c0, .slice a1 m1 c1, .slice a2 m2 c2, .slice a3 m3 c3, .slice a4 m4 c4] 51)).ownsRow B 51 5 (.slice ar nr cr) nr rcs := World.ownsRow.alloc hR9 _
    have NEWS : ∀ j u, ([.slice a0 m0 c0, .slice a1 m1 c1, .slice a2 m2 c2, .slice a3 m3 c3, .slice a4 m4 c4] : List Value)[j]? = some u → (w9.drew.alloc (.cells #[.slice a0 m0 c0, .slice a1 m1 c1, .slice a2 m2 c2, .slice a3 m3 c3, .slice a4 m4 c4] 51)).cell? ((⟨w9.heap.size, 0, none⟩ : Addr).add j) = some u := World.news_of_block (cs := #[.slice a0 m0 c0, .slice a1 m1 c1, .slice a2 m2 c2, .slice a3 m3 c3, .slice a4 m4 c4]) (t := 51) (fr := (0, 0)) (Blk.new w9.drew 51 _)
    have ONE : ∀ u ∈ ([.slice a0 m0 c0, .slice a1 m1 c1, .slice a2 m2 c2, .slice a3 m3 c3, .slice a4 m4 c4] : List Value), u.oneCell' = true := by
      intro u hu
      simp only [List.mem_cons, List.not_mem_nil, or_false] at hu
      rcases hu with rfl | rfl | rfl | rfl | rfl <;> rfl
    have h5 : RlV B w9 [.slice a0 m0 c0, .slice a1 m1 c1, .slice a2 m2 c2, .slice a3 m3 c3, .slice a4 m4 c4] ⟨L0, L1, L2, L3, L4⟩ := ⟨_, _, _, _, _, rfl, T0, T1, T2, T3, T4⟩
    have PL : Hd (∀ (q cap : Nat) (w8 : World), w8.ownsRow B 51 5 (.slice (some ⟨q, 0, none⟩) (nr + 1) cap) (nr + 1) (rcs ++ [.slice a0 m0 c0, .slice a1 m1 c1, .slice a2 m2 c2, .slice a3 m3 c3, .slice a4 m4 c4]) → (w9.drew.alloc (.cells #[.slice a0 m0 c0, .slice a1 m1 c1, .slice a2 m2 c2, .slice a3 m3 c3, .slice a4 m4 c4] 51)).grownBy w8 (Value.slice ar nr cr).ownBlock → ((Value.slice ar nr cr).ownBlock = some q ∨ q = w9.heap.size + 1) →
        Told B R A w (w8.setCell ⟨sb, m * 5 + 4, none⟩ (.slice (some ⟨q, 0, none⟩) (nr + 1) cap)) 0 ⟨C.total, C.period, C.perSeat, C.most, C.levels, addRule ⟨L0, L1, L2, L3, L4⟩ (ini ++ [s])⟩) := ⟨fun q cap w8 hown hgrow hat => by
      have e := HNR.out
      subst e
      exact push_rl (q := q) (cap := cap) (w8 := w8) (s := s) (ini := ini) (Vi := Vi) (r := ⟨L0, L1, L2, L3, L4⟩) (o := .cells #[.slice a0 m0 c0, .slice a1 m1 c1, .slice a2 m2 c2, .slice a3 m3 c3, .slice a4 m4 c4] 51) h9 HBA KW HM.out.symm hA9 hL9 hS9 (HV.out.trans HM.out.symm) HD.out hR9 hV9 h5 hown hgrow hat⟩
    have far : ∀ w8 : World, (w9.drew.alloc (.cells #[.slice a0 m0 c0, .slice a1 m1 c1, .slice a2 m2 c2, .slice a3 m3 c3, .slice a4 m4 c4] 51)).grownBy w8 (Value.slice ar nr cr).ownBlock → w8.cell? ⟨sb, m * 5 + 4, none⟩ = some (.slice ar nr cr) ∧ w8.frozen? ⟨sb, m * 5 + 4, none⟩ = false := fun w8 hg8 => by
      have h1 := hsb.off (grown_kept hg8) (off_own hR9 (by decide))
      exact ⟨(World.cell?_of_block (a := ⟨sb, m * 5 + 4, none⟩) (h1.trans hsb.symm)).trans x4, h1.frozen _⟩
    have hBw : B ≤ w9.heap.size + 1 := by have := hA9.lt; omega
    clear hA9 hL9 hS9 h9 g9 k9 KW hL hA HS HRO HRV HD HE hb o9 o26 o39 o42 o73 H K hR9 hV9 hsb h5 T0 T1 T2 T3 T4 HE1 HEz
    go_wp2_with (go_at_call 47; refine F.mono ?_; rintro e w' ⟨rfl, hw⟩; obtain rfl := hw.symm)
    go_region_law (refine step_append_lies _ rfl (.tmp 67) (.tmp 69) 47 rfl B 51 i0 (.agg #[.slice none 0 0, .slice none 0 0, .slice none 0 0, .slice none 0 0, .slice none 0 0]) 5 120 Tryd.underlying47 hi hz0 hz1 hz2 rfl (by decide) _ nr rcs (by simp [Act.eval]) OWN ⟨w9.heap.size, 0, none⟩ 1 1 [.slice a0 m0 c0, .slice a1 m1 c1, .slice a2 m2 c2, .slice a3 m3 c3, .slice a4 m4 c4] (by simp [Act.eval]) rfl NEWS ONE (by decide) (by unfold maxLen; omega) (by omega) (by simp; omega) (w9.heap.size + 1) (by simp) ?_; intro q cap w8 hown hgrow hat hlt; obtain ⟨y4, fy4⟩ := far w8 hgrow)
    all_goals
      go_wp2
      go_end0
      exact ⟨rfl, PL.out _ _ _ hown hgrow hat⟩
  · have e0 : (E == 0) = false := by simpa using hE0
    rw [e0] at F
    have R3 : Hd (Told B R A w w9 E ⟨C.total, C.period, C.perSeat, C.most, C.levels, addRule ⟨L0, L1, L2, L3, L4⟩ (ini ++ [s])⟩) := ⟨⟨_, h9⟩, fun h => absurd h hE0, H.kt k9⟩
    clear h9 g9 k9 hL hA HS HRO HRV HD HE hb o9 o26 o39 o42 o73 H K T0 T1 T2 T3 T4 HE1 HEz
    go_wp2_with (go_at_call 47; refine F.mono ?_; rintro e w' ⟨rfl, hw⟩; obtain rfl := hw.symm)
    go_end0
    exact ⟨rfl, R3.out⟩

end Go.Proofs.YtaodckojinbdfaaDoor
