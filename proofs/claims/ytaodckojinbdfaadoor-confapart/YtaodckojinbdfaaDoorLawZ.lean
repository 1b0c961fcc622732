/-
  'ConfApart' answers true. Conditions: what 'Parse' and 'awake' answer.
-/
import Derived.Test.YtaodckojinbdfaaDoorCpR
import Derived.Test.YtaodckojinbdfaaDoorCpy
import Derived.Test.YtaodckojinbdfaaDoorCpS
import Derived.Deep.CutBlock
import Derived.Deep.DeepCutAuto
namespace Go.Proofs.YtaodckojinbdfaaDoor.Cp
open Go.RowKit

structure PR (w : World) (s : ByteArray) (er : Value) (e : Ending) (w' : World) : Prop where
  ex : ∃ v, e = .returned (.tuple #[v, er]) ∧ CfB w.heap.size w' v (parC s)
  bel : Below w.heap.size w w'
/-- Three boxes. -/
structure Th (g1 g2 g3 : Nat) (c1 c2 c3 : Array Value) (w : World) : Prop where
  t : Tw g1 g2 c1 c2 w
  e : Blk w g3 30 c3
theorem Th.kept {g1 g2 g3 : Nat} {c1 c2 c3 : Array Value} {w w' : World} (h : Th g1 g2 g3 c1 c2 c3 w) (k : Kept (fun _ => False) w w') (_ : False → False) : Th g1 g2 g3 c1 c2 c3 w' := ⟨h.t.kept k id, h.e.kept k id⟩
theorem list5 (v0 v1 v2 v3 v4 : Value) : ∀ t (h : t < 5), (#[v0, v1, v2, v3, v4] : Array Value)[t]? = some (([v0, v1, v2, v3, v4] : List Value)[t]'h)
  | 0, _ => rfl
  | 1, _ => rfl
  | 2, _ => rfl
  | 3, _ => rfl
  | 4, _ => rfl
theorem pr_shape {w w' : World} {s : ByteArray} {er : Value} {e : Ending} (h : PR w s er e w') : ∃ (aL : Option Addr) (n cL : Nat) (aS : Option Addr) (m cS : Nat), e = .returned (.tuple #[.agg #[.int .i64 (parC s).total, .int .i64 (parC s).period, .int .i64 (parC s).perSeat, .int .i64 (parC s).most, .slice aL n cL, .slice aS m cS], er]) ∧ CfB w.heap.size w' (.agg #[.int .i64 (parC s).total, .int .i64 (parC s).period, .int .i64 (parC s).perSeat, .int .i64 (parC s).most, .slice aL n cL, .slice aS m cS]) (parC s) := by
  obtain ⟨v, rfl, vL, vS, V, rfl, hL, hS⟩ := h.ex
  obtain ⟨aL, cL, rfl, -⟩ := owns_read hL
  obtain ⟨aS, cS, rfl, -⟩ := owns_read hS.own
  exact ⟨aL, _, cL, aS, _, cS, rfl, _, _, V, rfl, hL, hS⟩

set_option maxRecDepth 20000 in
set_option maxHeartbeats 16000000 in
theorem apart_nil (s : ByteArray) (w : World) (hs : s.size ≤ 9223372036854775807) (AW : Calls Tryd.prog 7 #[] w fun e w' => e = .returned (.bool true) ∧ Below w.heap.size w w')
    (P : ∀ W, Below w.heap.size w W → Calls Tryd.prog 9 #[.string s] W fun e w' => PR W s (.nilIface) e w') : Calls Tryd.prog 6 #[.string s] w fun e w' => e = .returned (.bool true) ∧ Below w.heap.size w w' := by
  obtain ⟨hbnd, hfit⟩ := formed_all (par_any s)
  have HP : Hd _ := ⟨P⟩
  clear P
  go_enter Tryd.func6, Tryd.ntmps6
  go_wp2_with fail
  go_at_call 7
  refine AW.mono ?_
  rintro e w1 ⟨rfl, b1⟩
  by_cases h8 : 8000 < s.size
  · go_wp2_with fail
    go_ret
    exact ⟨rfl, b1⟩
  have P1 := HP.out w1 b1
  go_wp2_with fail
  go_at_call 9
  refine P1.mono ?_
  intro e w2 h2
  have b2 := h2.bel
  obtain ⟨eL, nn, eC, eS, mm, fC, rfl, ha⟩ := pr_shape h2
  clear P1 h2
  have HB2 : Hd (Below w.heap.size w w2) := ⟨b1.trans (b2.mono b1.size)⟩
  have HPC : Hd (∀ W, Below w.heap.size w W → Calls Tryd.prog 9 #[.string s] W fun e w' => PR W s (.nilIface) e w') := ⟨HP.out⟩
  clear HP
  have HX : Hd (parC s = parC s) := ⟨rfl⟩
  generalize hx0 : (parC s).total = x0 at *
  generalize hx1 : (parC s).period = x1 at *
  generalize hx2 : (parC s).perSeat = x2 at *
  generalize hx3 : (parC s).most = x3 at *
  have HXS : Hd ((parC s).total = x0 ∧ (parC s).period = x1 ∧ (parC s).perSeat = x2 ∧ (parC s).most = x3) := ⟨hx0, hx1, hx2, hx3⟩
  clear hx0 hx1 hx2 hx3 HX
  have AL3 := alloc_below w2 (.cells #[.int .i64 x0, .int .i64 x1, .int .i64 x2, .int .i64 x3, .slice eL nn eC, .slice eS mm fC] 30)
  have NB3 := Blk.new w2 30 #[.int .i64 x0, .int .i64 x1, .int .i64 x2, .int .i64 x3, .slice eL nn eC, .slice eS mm fC]
  have b3 : Below w.heap.size w (w2.alloc (.cells #[.int .i64 x0, .int .i64 x1, .int .i64 x2, .int .i64 x3, .slice eL nn eC, .slice eS mm fC] 30)) := HB2.out.trans (AL3.mono HB2.out.size)
  obtain ⟨V, hz, n7, m7⟩ := cfb_room (N := w2.heap.size + 1) ha hbnd (by omega)
  have HZ3 : Hd (Zv w1.heap.size (w2.heap.size + 1) (w2.alloc (.cells #[.int .i64 x0, .int .i64 x1, .int .i64 x2, .int .i64 x3, .slice eL nn eC, .slice eS mm fC] 30)) eL nn eS mm V) := ⟨hz.grown AL3⟩
  have HRA : Hd (CfR (w2.alloc (.cells #[.int .i64 x0, .int .i64 x1, .int .i64 x2, .int .i64 x3, .slice eL nn eC, .slice eS mm fC] 30)) (.agg #[.int .i64 x0, .int .i64 x1, .int .i64 x2, .int .i64 x3, .slice eL nn eC, .slice eS mm fC]) (parC s)) := ⟨by
    have h0 := (cfb_read ha hfit).carry AL3
    exact h0⟩
  have P3 := HPC.out _ b3
  have HSZ : Hd ((w2.alloc (.cells #[.int .i64 x0, .int .i64 x1, .int .i64 x2, .int .i64 x3, .slice eL nn eC, .slice eS mm fC] 30)).heap.size = w2.heap.size + 1 ∧ w.heap.size ≤ w1.heap.size ∧ w1.heap.size ≤ w2.heap.size) := ⟨by simp, b1.size, b2.size⟩
  clear ha hz b2 b1 AW h8 AL3
  simp only
  go_upto_region 6 with fail
  generalize w2.alloc _ = w3 at *
  go_wp2_with fail
  go_at_call 9
  refine P3.mono ?_
  intro e w4 h4
  have b4 := h4.bel
  obtain ⟨bL, nb, bC, bS, mb, cC, rfl, hb⟩ := pr_shape h4
  clear P3 h4
  rw [HXS.out.1, HXS.out.2.1, HXS.out.2.2.1, HXS.out.2.2.2] at hb ⊢
  obtain ⟨ga, hga⟩ : ∃ ga, ga = w2.heap.size := ⟨_, rfl⟩
  rw [← hga] at NB3 HZ3 HSZ ⊢
  have AL5 := alloc_below w4 (.cells #[.int .i64 x0, .int .i64 x1, .int .i64 x2, .int .i64 x3, .slice bL nb bC, .slice bS mb cC] 30)
  have B45 : Below w3.heap.size w3 (w4.alloc (.cells #[.int .i64 x0, .int .i64 x1, .int .i64 x2, .int .i64 x3, .slice bL nb bC, .slice bS mb cC] 30)) := b4.trans (AL5.mono b4.size)
  have T5 : Tw ga w4.heap.size #[.int .i64 x0, .int .i64 x1, .int .i64 x2, .int .i64 x3, .slice eL nn eC, .slice eS mm fC] #[.int .i64 x0, .int .i64 x1, .int .i64 x2, .int .i64 x3, .slice bL nb bC, .slice bS mb cC] (w4.alloc (.cells #[.int .i64 x0, .int .i64 x1, .int .i64 x2, .int .i64 x3, .slice bL nb bC, .slice bS mb cC] 30)) := ⟨(NB3.kept (Kept.of_below b4 (fun _ => False)) id).alloc _, Blk.new w4 30 _⟩
  have HBB : Hd (CfB w3.heap.size (w4.alloc (.cells #[.int .i64 x0, .int .i64 x1, .int .i64 x2, .int .i64 x3, .slice bL nb bC, .slice bS mb cC] 30)) (.agg #[.int .i64 x0, .int .i64 x1, .int .i64 x2, .int .i64 x3, .slice bL nb bC, .slice bS mb cC]) (parC s)) := ⟨by
    obtain ⟨vL, vS, V', e, hL, hS⟩ := hb
    have k : Kept (fun k => w3.heap.size ≤ k ∧ k < w3.heap.size) w4 (w4.alloc (.cells #[.int .i64 x0, .int .i64 x1, .int .i64 x2, .int .i64 x3, .slice bL nb bC, .slice bS mb cC] 30)) := Kept.of_below AL5 _
    exact cfb_abv ⟨vL, vS, V', e, hL, hS⟩ k⟩
  have B35 : Below w.heap.size w w3 := b3
  have HZ5 : Hd (Zv w1.heap.size (ga + 1) (w4.alloc (.cells #[.int .i64 x0, .int .i64 x1, .int .i64 x2, .int .i64 x3, .slice bL nb bC, .slice bS mb cC] 30)) eL nn eS mm V) := ⟨HZ3.out.grown B45⟩
  have HRA5 : Hd (CfR (w4.alloc (.cells #[.int .i64 x0, .int .i64 x1, .int .i64 x2, .int .i64 x3, .slice bL nb bC, .slice bS mb cC] 30)) (.agg #[.int .i64 x0, .int .i64 x1, .int .i64 x2, .int .i64 x3, .slice eL nn eC, .slice eS mm fC]) (parC s)) := ⟨HRA.out.carry B45⟩
  have HRB5 : Hd (CfR (w4.alloc (.cells #[.int .i64 x0, .int .i64 x1, .int .i64 x2, .int .i64 x3, .slice bL nb bC, .slice bS mb cC] 30)) (.agg #[.int .i64 x0, .int .i64 x1, .int .i64 x2, .int .i64 x3, .slice bL nb bC, .slice bS mb cC]) (parC s)) := ⟨cfb_read HBB.out hfit⟩
  have HGB0 : Hd (ga + 1 ≤ w4.heap.size) := ⟨by have := b4.size; have := HSZ.out.1; omega⟩
  clear hb b4 AL5 NB3 HZ3 HRA hga b3
  simp only
  go_upto_region 7 with fail
  generalize w4.alloc _ = w5 at *
  generalize w4.heap.size = gb at *
  have DR : Below w5.heap.size w5 w5.drew := ⟨rfl, rfl, rfl, Nat.le_refl _, fun _ _ => rfl⟩
  have A0 := T5.kept (Kept.of_below DR (fun _ => False)) id
  refine AnyG.start (T := Tw ga gb #[.int .i64 x0, .int .i64 x1, .int .i64 x2, .int .i64 x3, .slice eL nn eC, .slice eS mm fC] #[.int .i64 x0, .int .i64 x1, .int .i64 x2, .int .i64 x3, .slice bL nb bC, .slice bS mb cC]) (U := fun _ => True) (j0 := 100) (by kernel_rfl) ?_
  have B0 : Below w5.heap.size w5 w5.drew := DR
  clear DR T5
  generalize w5.drew = w0 at *
  refine AnyG.takeAt 0 32 (v := ?_) rfl rfl (by kernel_rfl) (by kernel_rfl) (by kernel_rfl) (by decide) (fun _ _ _ h => h) ⟨A0, fun _ => trivial⟩ (by rfl) ?_ ?_
  rotate_left
  · intro w hSw
    go_simp
    rfl
  simp only [List.setIfInBounds_toArray, List.set_cons_zero, List.set_cons_succ]
  refine AnyG.takeAt 1 33 (v := ?_) rfl rfl (by kernel_rfl) (by kernel_rfl) (by kernel_rfl) (by decide) (fun _ _ _ h => h) ⟨A0, fun _ => trivial⟩ (by rfl) ?_ ?_
  rotate_left
  · intro w hSw
    go_simp
    rfl
  simp only [List.setIfInBounds_toArray, List.set_cons_zero, List.set_cons_succ]
  refine AnyG.takeAt 2 34 (v := ?_) rfl rfl (by kernel_rfl) (by kernel_rfl) (by kernel_rfl) (by decide) (fun _ _ _ h => h) ⟨A0, fun _ => trivial⟩ (by rfl) ?_ ?_
  rotate_left
  · intro w hSw
    go_simp
    rfl
  simp only [List.setIfInBounds_toArray, List.set_cons_zero, List.set_cons_succ]
  refine AnyG.takeAt 3 35 (v := ?_) rfl rfl (by kernel_rfl) (by kernel_rfl) (by kernel_rfl) (by decide) (fun _ _ _ h => h) ⟨A0, fun _ => trivial⟩ (by rfl) ?_ ?_
  rotate_left
  · intro w hSw
    go_simp
    rfl
  simp only [List.setIfInBounds_toArray, List.set_cons_zero, List.set_cons_succ]
  refine AnyG.takeAt 4 36 (v := ?_) rfl rfl (by kernel_rfl) (by kernel_rfl) (by kernel_rfl) (by decide) (fun _ _ _ h => h) ⟨A0, fun _ => trivial⟩ (by rfl) ?_ ?_
  rotate_left
  · intro w hSw
    go_simp
    rfl
  simp only [List.setIfInBounds_toArray, List.set_cons_zero, List.set_cons_succ]
  refine AnyG.takeAt 5 37 (v := ?_) rfl rfl (by kernel_rfl) (by kernel_rfl) (by kernel_rfl) (by decide) (fun _ _ _ h => h) ⟨A0, fun _ => trivial⟩ (by rfl) ?_ ?_
  rotate_left
  · intro w hSw
    go_simp
    rfl
  simp only [List.setIfInBounds_toArray, List.set_cons_zero, List.set_cons_succ]
  refine AnyG.takeAt 6 38 (v := ?_) rfl rfl (by kernel_rfl) (by kernel_rfl) (by kernel_rfl) (by decide) (fun _ _ _ h => h) ⟨A0, fun _ => trivial⟩ (by rfl) ?_ ?_
  rotate_left
  · intro w hSw
    have s10 := hSw.b1.cellv (v := .int .i64 x0) 0 rfl
    have s11 := hSw.b1.cellv (v := .int .i64 x1) 1 rfl
    have s12 := hSw.b1.cellv (v := .int .i64 x2) 2 rfl
    have s13 := hSw.b1.cellv (v := .int .i64 x3) 3 rfl
    have s14 := hSw.b1.cellv (v := .slice eL nn eC) 4 rfl
    have s15 := hSw.b1.cellv (v := .slice eS mm fC) 5 rfl
    go_simp
    rfl
  simp only [List.setIfInBounds_toArray, List.set_cons_zero, List.set_cons_succ]
  refine AnyG.takeAt 7 39 (v := ?_) rfl rfl (by kernel_rfl) (by kernel_rfl) (by kernel_rfl) (by decide) (fun _ _ _ h => h) ⟨A0, fun _ => trivial⟩ (by rfl) ?_ ?_
  rotate_left
  · intro w hSw
    have s10 := hSw.b2.cellv (v := .int .i64 x0) 0 rfl
    have s11 := hSw.b2.cellv (v := .int .i64 x1) 1 rfl
    have s12 := hSw.b2.cellv (v := .int .i64 x2) 2 rfl
    have s13 := hSw.b2.cellv (v := .int .i64 x3) 3 rfl
    have s14 := hSw.b2.cellv (v := .slice bL nb bC) 4 rfl
    have s15 := hSw.b2.cellv (v := .slice bS mb cC) 5 rfl
    go_simp
    rfl
  simp only [List.setIfInBounds_toArray, List.set_cons_zero, List.set_cons_succ]
  refine AnyG.ready (rs := [8]) (by kernel_rfl) (by simp) ?_
  refine AllG.cons rfl (fun K hK => ?_) AllG.nil
  go_simp
  refine (same_cfr (HRA5.out.carry B0) (HRB5.out.carry B0)).mono ?_
  rintro e wk1 ⟨rfl, b1⟩
  have Ak1 := A0.kept (Kept.of_below b1 (fun _ => False)) id
  have Bk1 : Below w5.heap.size w5 wk1 := B0.trans (b1.mono B0.size)
  refine hK.out _ _ ⟨Ak1, fun _ => trivial⟩ ?_
  clear hK K b1 A0 B0
  refine AnyG.takeAt 9 41 (v := ?_) rfl rfl (by kernel_rfl) (by kernel_rfl) (by kernel_rfl) (by decide) (fun _ _ _ h => h) ⟨Ak1, fun _ => trivial⟩ (by rfl) ?_ ?_
  rotate_left
  · intro w hSw
    go_simp
    rfl
  simp only [List.setIfInBounds_toArray, List.set_cons_zero, List.set_cons_succ]
  refine AnyG.takeAt 10 42 (v := ?_) rfl rfl (by kernel_rfl) (by kernel_rfl) (by kernel_rfl) (by decide) (fun _ _ _ h => h) ⟨Ak1, fun _ => trivial⟩ (by rfl) ?_ ?_
  rotate_left
  · intro w hSw
    go_simp
    rfl
  simp only [List.setIfInBounds_toArray, List.set_cons_zero, List.set_cons_succ]
  refine AnyG.done (by kernel_rfl) ?_ _
  have HZ6 : Hd _ := ⟨HZ5.out.grown Bk1⟩
  have HBB6 : Hd (CfB w3.heap.size wk1 (.agg #[.int .i64 x0, .int .i64 x1, .int .i64 x2, .int .i64 x3, .slice bL nb bC, .slice bS mb cC]) (parC s)) := ⟨cfb_abv (B := w3.heap.size) HBB.out (Kept.of_below Bk1 _)⟩
  have CP := copy_ok _ _ wk1 (HRB5.out.carry Bk1) hbnd
  have T6 : Hd _ := ⟨Ak1⟩
  have B36 : Hd (Below w3.heap.size w3 wk1) := ⟨B45.trans (Bk1.mono B45.size)⟩
  clear HZ5 HBB HRA5 HRB5 B45
  generalize wk1 = w6 at *
  have c0 := T6.out.b2.cellv (v := .int .i64 x0) 0 rfl
  have c1 := T6.out.b2.cellv (v := .int .i64 x1) 1 rfl
  have c2 := T6.out.b2.cellv (v := .int .i64 x2) 2 rfl
  have c3 := T6.out.b2.cellv (v := .int .i64 x3) 3 rfl
  have c4 := T6.out.b2.cellv (v := .slice bL nb bC) 4 rfl
  have c5 := T6.out.b2.cellv (v := .slice bS mb cC) 5 rfl
  go_wp2_with fail
  go_at_call 14
  refine CP.mono ?_
  rintro e w7 ⟨⟨vw, rfl, hw⟩, b7⟩

  obtain ⟨vL, vS, V2, rfl, hvL, hvS⟩ := hw.ex
  obtain ⟨gL, gC, e1, -⟩ := owns_read hvL
  obtain ⟨gS', hC, e2, -⟩ := owns_read hvS.own
  subst e1 e2
  rw [HXS.out.1, HXS.out.2.1, HXS.out.2.2.1, HXS.out.2.2.2] at hw ⊢
  generalize (parC s).levels.length = nw at *
  generalize (parC s).schemas.length = mw at *
  have AL8 := alloc_below w7 (.cells #[.int .i64 x0, .int .i64 x1, .int .i64 x2, .int .i64 x3, .slice gL nw gC, .slice gS' mw hC] 30)
  have B78 : Below w6.heap.size w6 (w7.alloc (.cells #[.int .i64 x0, .int .i64 x1, .int .i64 x2, .int .i64 x3, .slice gL nw gC, .slice gS' mw hC] 30)) := b7.trans (AL8.mono b7.size)
  have hsz6 := B36.out.size
  have hsz7 := b7.size
  have hN : w3.heap.size = ga + 1 := HSZ.out.1
  have T8 : Th ga gb w7.heap.size #[.int .i64 x0, .int .i64 x1, .int .i64 x2, .int .i64 x3, .slice eL nn eC, .slice eS mm fC] #[.int .i64 x0, .int .i64 x1, .int .i64 x2, .int .i64 x3, .slice bL nb bC, .slice bS mb cC] #[.int .i64 x0, .int .i64 x1, .int .i64 x2, .int .i64 x3, .slice gL nw gC, .slice gS' mw hC] (w7.alloc (.cells #[.int .i64 x0, .int .i64 x1, .int .i64 x2, .int .i64 x3, .slice gL nw gC, .slice gS' mw hC] 30)) := ⟨T6.out.kept (Kept.of_below B78 (fun _ => False)) id, Blk.new w7 30 _⟩
  have HZ8 : Hd (Zs w1.heap.size (ga + 1) (w7.alloc (.cells #[.int .i64 x0, .int .i64 x1, .int .i64 x2, .int .i64 x3, .slice gL nw gC, .slice gS' mw hC] 30)) (w7.alloc (.cells #[.int .i64 x0, .int .i64 x1, .int .i64 x2, .int .i64 x3, .slice gL nw gC, .slice gS' mw hC] 30)) ga #[.int .i64 x0, .int .i64 x1, .int .i64 x2, .int .i64 x3, .slice eL nn eC, .slice eS mm fC] eL nn eS mm V) := ⟨Kept.refl _ _, T8.t.b1, HZ6.out.grown B78⟩
  have HBK : Hd (∀ W, Kept (fun k => w1.heap.size ≤ k ∧ k < ga + 1) (w7.alloc (.cells #[.int .i64 x0, .int .i64 x1, .int .i64 x2, .int .i64 x3, .slice gL nw gC, .slice gS' mw hC] 30)) W → CfR W (.agg #[.int .i64 x0, .int .i64 x1, .int .i64 x2, .int .i64 x3, .slice bL nb bC, .slice bS mb cC]) (parC s)) := ⟨fun W k => by
    have h8 : CfB w3.heap.size (w7.alloc (.cells #[.int .i64 x0, .int .i64 x1, .int .i64 x2, .int .i64 x3, .slice gL nw gC, .slice gS' mw hC] 30)) (.agg #[.int .i64 x0, .int .i64 x1, .int .i64 x2, .int .i64 x3, .slice bL nb bC, .slice bS mb cC]) (parC s) := cfb_abv (B := w3.heap.size) HBB6.out (Kept.of_below B78 _)
    rw [hN] at h8
    exact cfb_read (cfb_abv h8 k) hfit⟩
  have HWK : Hd (∀ W, Kept (fun k => w1.heap.size ≤ k ∧ k < ga + 1) (w7.alloc (.cells #[.int .i64 x0, .int .i64 x1, .int .i64 x2, .int .i64 x3, .slice gL nw gC, .slice gS' mw hC] 30)) W → CfR W (.agg #[.int .i64 x0, .int .i64 x1, .int .i64 x2, .int .i64 x3, .slice gL nw gC, .slice gS' mw hC]) (parC s)) := ⟨fun W k => by
    have h8 := hw.grown AL8
    exact (cfw_abv h8 (by omega) k).read hfit⟩
  have HGB : Hd (ga + 1 ≤ gb ∧ ga + 1 ≤ w7.heap.size) := ⟨by
    have := T6.out.b2.lt
    exact HGB0.out, by omega⟩
  have HTW : Hd (Th ga gb w7.heap.size #[.int .i64 x0, .int .i64 x1, .int .i64 x2, .int .i64 x3, .slice eL nn eC, .slice eS mm fC] #[.int .i64 x0, .int .i64 x1, .int .i64 x2, .int .i64 x3, .slice bL nb bC, .slice bS mb cC] #[.int .i64 x0, .int .i64 x1, .int .i64 x2, .int .i64 x3, .slice gL nw gC, .slice gS' mw hC] (w7.alloc (.cells #[.int .i64 x0, .int .i64 x1, .int .i64 x2, .int .i64 x3, .slice gL nw gC, .slice gS' mw hC] 30))) := ⟨T8⟩
  have HBL : Hd (Below w.heap.size w (w7.alloc (.cells #[.int .i64 x0, .int .i64 x1, .int .i64 x2, .int .i64 x3, .slice gL nw gC, .slice gS' mw hC] 30))) := ⟨B35.trans ((B36.out.trans (B78.mono hsz6)).mono B35.size)⟩
  clear CP hw hvL hvS b7 AL8 B78 T8 hsz6 hsz7 HZ6 HBB6 T6 c0 c1 c2 c3 c4 c5 B35
  simp only
  go_upto_region 11 with fail
  generalize w7.alloc _ = w8 at *
  generalize w7.heap.size = gw at *
  go_loopw [8] (fun i wr => ∃ k : Nat, k ≤ nn ∧ i = .int .i64 k ∧ Hd (Zs w1.heap.size (ga + 1) w8 wr ga #[.int .i64 x0, .int .i64 x1, .int .i64 x2, .int .i64 x3, .slice eL nn eC, .slice eS mm fC] eL nn eS mm V)) (fun i _ => nn - (intOf i).toNat)
  case atStart => exact ⟨0, Nat.zero_le _, rfl, HZ8⟩
  case round =>
    obtain ⟨k, hk, rfl, hI⟩ := hrel
    clear HZ8
    have e4 := hI.out.box.cellv (v := .slice eL nn eC) 4 rfl
    by_cases hlt : k < nn
    · obtain ⟨g, rfl, hB, hRm⟩ := hI.out.z.lev (by omega)
      have HK : Hd (k < nn) := ⟨hlt⟩
      have at10 : ∀ j, j < 10 → (∃ y, wr.cell? ⟨g, k * 10 + j, none⟩ = some y) ∧ wr.frozen? ⟨g, k * 10 + j, none⟩ = false := fun j hj => hRm.cell (by omega)
      obtain ⟨⟨y0, z0⟩, f0⟩ : (∃ y, wr.cell? ⟨g, k * 10, none⟩ = some y) ∧ wr.frozen? ⟨g, k * 10, none⟩ = false := at10 0 (by decide)
      obtain ⟨⟨y1, z1⟩, f1⟩ : (∃ y, wr.cell? ⟨g, k * 10 + 1, none⟩ = some y) ∧ wr.frozen? ⟨g, k * 10 + 1, none⟩ = false := at10 1 (by decide)
      obtain ⟨⟨y2, z2⟩, f2⟩ : (∃ y, wr.cell? ⟨g, k * 10 + 2, none⟩ = some y) ∧ wr.frozen? ⟨g, k * 10 + 2, none⟩ = false := at10 2 (by decide)
      obtain ⟨⟨y3, z3⟩, f3⟩ : (∃ y, wr.cell? ⟨g, k * 10 + 3, none⟩ = some y) ∧ wr.frozen? ⟨g, k * 10 + 3, none⟩ = false := at10 3 (by decide)
      obtain ⟨⟨y4, z4⟩, f4⟩ : (∃ y, wr.cell? ⟨g, k * 10 + 4, none⟩ = some y) ∧ wr.frozen? ⟨g, k * 10 + 4, none⟩ = false := at10 4 (by decide)
      obtain ⟨⟨y5, z5⟩, f5⟩ : (∃ y, wr.cell? ⟨g, k * 10 + 5, none⟩ = some y) ∧ wr.frozen? ⟨g, k * 10 + 5, none⟩ = false := at10 5 (by decide)
      obtain ⟨⟨y6, z6⟩, f6⟩ : (∃ y, wr.cell? ⟨g, k * 10 + 6, none⟩ = some y) ∧ wr.frozen? ⟨g, k * 10 + 6, none⟩ = false := at10 6 (by decide)
      obtain ⟨⟨y7, z7⟩, f7⟩ : (∃ y, wr.cell? ⟨g, k * 10 + 7, none⟩ = some y) ∧ wr.frozen? ⟨g, k * 10 + 7, none⟩ = false := at10 7 (by decide)
      obtain ⟨⟨y8, z8⟩, f8⟩ : (∃ y, wr.cell? ⟨g, k * 10 + 8, none⟩ = some y) ∧ wr.frozen? ⟨g, k * 10 + 8, none⟩ = false := at10 8 (by decide)
      obtain ⟨⟨y9, z9⟩, f9⟩ : (∃ y, wr.cell? ⟨g, k * 10 + 9, none⟩ = some y) ∧ wr.frozen? ⟨g, k * 10 + 9, none⟩ = false := at10 9 (by decide)
      have NX : Hd _ := ⟨((((((((((hI.out.lev (i := k * 10) (by omega) (.string ⟨#[]⟩)).lev (i := k * 10 + 1) (by omega) (.int .i64 0)).lev (i := k * 10 + 2) (by omega) (.int .i64 0)).lev (i := k * 10 + 3) (by omega) (.int .i64 0)).lev (i := k * 10 + 4) (by omega) (.int .i64 0)).lev (i := k * 10 + 5) (by omega) (.int .i64 0)).lev (i := k * 10 + 6) (by omega) (.int .i64 0)).lev (i := k * 10 + 7) (by omega) (.int .i64 0)).lev (i := k * 10 + 8) (by omega) (.int .i64 0)).lev (i := k * 10 + 9) (by omega) (.int .i64 0))⟩
      clear at10 hRm hI
      go_wp2_with fail
      go_roundw
      case rel => exact ⟨k + 1, HK.out, by go_num, NX⟩
      case measure => have := HK.out; simp [intOf]; omega
    · obtain rfl : k = nn := by omega
      obtain ⟨nl, hnl⟩ : ∃ nl, nl = k := ⟨_, rfl⟩
      subst hnl
      obtain ⟨wq, rfl⟩ : ∃ wq : World, wq = wr := ⟨_, rfl⟩
      go_wp2_with fail
      clear e4
      go_loopw [9] (fun i wr => ∃ k : Nat, k ≤ mm ∧ i = .int .i64 k ∧ Hd (Zs w1.heap.size (ga + 1) w8 wr ga #[.int .i64 x0, .int .i64 x1, .int .i64 x2, .int .i64 x3, .slice eL nl eC, .slice eS mm fC] eL nl eS mm V)) (fun i _ => mm - (intOf i).toNat)
      case atStart => exact ⟨0, Nat.zero_le _, rfl, hI⟩
      case round =>
        obtain ⟨k, hk, rfl, hS2⟩ := hrel
        clear hI
        have e5 := hS2.out.box.cellv (v := .slice eS mm fC) 5 rfl
        by_cases hlt : k < mm
        · have hkV : k < V.length := by rw [hS2.out.z.len]; exact hlt
          obtain ⟨a, rn, rc, eV, rn9, -⟩ := hS2.out.z.rls k hkV
          obtain ⟨gS, curS, rfl, hgS, hcS⟩ := hS2.out.z.sch (by omega)
          have y4 : wr.cell? ⟨gS, k * 5 + 4, none⟩ = some (.slice a rn rc) := by rw [hgS.cell, hcS k hkV, eV]
          have HK : Hd (k < mm ∧ k < V.length) := ⟨hlt, hkV⟩
          have HEV : Hd (V[k] = .slice a rn rc) := ⟨eV⟩
          obtain ⟨wq2, rfl⟩ : ∃ wq : World, wq = wr := ⟨_, rfl⟩
          clear hcS hgS curS eV
          go_wp2_with fail
          clear e5 y4
          go_loopw [10] (fun i wr => ∃ p : Nat, p ≤ rn ∧ i = .int .i64 p ∧ Hd (Zs w1.heap.size (ga + 1) w8 wr ga #[.int .i64 x0, .int .i64 x1, .int .i64 x2, .int .i64 x3, .slice eL nl eC, .slice (some ⟨gS, 0, none⟩) mm fC] eL nl (some ⟨gS, 0, none⟩) mm V)) (fun i _ => rn - (intOf i).toNat)
          case atStart => exact ⟨0, Nat.zero_le _, rfl, hS2⟩
          case round =>
            obtain ⟨p, hp, rfl, hS3⟩ := hrel
            clear hS2
            have e5 := hS3.out.box.cellv (v := .slice (some ⟨gS, 0, none⟩) mm fC) 5 rfl
            have Y4 : Hd (∀ W, Zv w1.heap.size (ga + 1) W eL nl (some ⟨gS, 0, none⟩) mm V → W.cell? ⟨gS, k * 5 + 4, none⟩ = some (.slice a rn rc)) := ⟨fun W h => by
              obtain ⟨g', cur, e, hg, hc⟩ := h.sch (by have := HK.out.1; omega)
              injection e with e
              injection e with e
              subst e
              rw [hg.cell, hc k HK.out.2, HEV.out]⟩
            have y4 := Y4.out wr hS3.out.z
            by_cases hlt2 : p < rn
            · obtain ⟨a9, n9', c9, e9, -, hRZ⟩ := hS3.out.z.rls k HK.out.2
              rw [HEV.out] at e9
              injection e9 with e9a e9b e9c
              subst e9a e9b e9c
              obtain ⟨g3, cur3, rfl, hB3, hg3, hs3, hc3⟩ := hRZ (by omega)
              obtain ⟨v0, t0, l0⟩ := hc3 (p * 5) (by omega)
              obtain ⟨v1, t1, l1⟩ := hc3 (p * 5 + 1) (by omega)
              obtain ⟨v2, t2, l2⟩ := hc3 (p * 5 + 2) (by omega)
              obtain ⟨v3, t3, l3⟩ := hc3 (p * 5 + 3) (by omega)
              obtain ⟨v4, t4, l4⟩ := hc3 (p * 5 + 4) (by omega)
              have QZ : Hd (∀ t (h : t < 5), LsZ w1.heap.size (ga + 1) wr (([v0, v1, v2, v3, v4] : List Value)[t]'h)) := ⟨fun t ht => by
                match t, ht with
                | 0, _ => exact l0
                | 1, _ => exact l1
                | 2, _ => exact l2
                | 3, _ => exact l3
                | 4, _ => exact l4⟩
              obtain ⟨q0a, q0n, q0c, rfl, -⟩ := id l0
              obtain ⟨q1a, q1n, q1c, rfl, -⟩ := id l1
              obtain ⟨q2a, q2n, q2c, rfl, -⟩ := id l2
              obtain ⟨q3a, q3n, q3c, rfl, -⟩ := id l3
              obtain ⟨q4a, q4n, q4c, rfl, -⟩ := id l4
              rw [← hg3.cell] at t0 t1 t2 t3 t4
              have HP : Hd (p < rn) := ⟨hlt2⟩
              have AL := alloc_below wr (.cells #[.slice q0a q0n q0c, .slice q1a q1n q1c, .slice q2a q2n q2c, .slice q3a q3n q3c, .slice q4a q4n q4c] 51)
              have NB := Blk.new wr 51 #[.slice q0a q0n q0c, .slice q1a q1n q1c, .slice q2a q2n q2c, .slice q3a q3n q3c, .slice q4a q4n q4c]
              have HS3a : Hd _ := ⟨hS3.out.grown AL⟩
              have QZa : Hd (∀ t (h : t < 5), LsZ w1.heap.size (ga + 1) (wr.alloc (.cells #[.slice q0a q0n q0c, .slice q1a q1n q1c, .slice q2a q2n q2c, .slice q3a q3n q3c, .slice q4a q4n q4c] 51)) (([.slice q0a q0n q0c, .slice q1a q1n q1c, .slice q2a q2n q2c, .slice q3a q3n q3c, .slice q4a q4n q4c] : List Value)[t]'h)) := ⟨fun t ht => (QZ.out t ht).grown AL⟩
              clear l0 l1 l2 l3 l4 hc3 hs3 hB3 hS3 AL hg3 cur3 QZ hRZ
              go_upto_region 21 with fail
              generalize wr.alloc _ = wa at *
              generalize wr.heap.size = gx at *
              clear t0 t1 t2 t3 t4 e5 y4
              have n0 := NB.cellv (v := .slice q0a q0n q0c) 0 rfl
              have n1 := NB.cellv (v := .slice q1a q1n q1c) 1 rfl
              have n2 := NB.cellv (v := .slice q2a q2n q2c) 2 rfl
              have n3 := NB.cellv (v := .slice q3a q3n q3c) 3 rfl
              have n4 := NB.cellv (v := .slice q4a q4n q4c) 4 rfl
              have AL := alloc_below wa (.cells #[.slice q0a q0n q0c, .slice q1a q1n q1c, .slice q2a q2n q2c, .slice q3a q3n q3c, .slice q4a q4n q4c] 24)
              have NB5 := Blk.new wa 24 #[.slice q0a q0n q0c, .slice q1a q1n q1c, .slice q2a q2n q2c, .slice q3a q3n q3c, .slice q4a q4n q4c]
              have HS4 : Hd (Zs w1.heap.size (ga + 1) w8 (wa.alloc (.cells #[.slice q0a q0n q0c, .slice q1a q1n q1c, .slice q2a q2n q2c, .slice q3a q3n q3c, .slice q4a q4n q4c] 24)) ga #[.int .i64 x0, .int .i64 x1, .int .i64 x2, .int .i64 x3, .slice eL nl eC, .slice (some ⟨gS, 0, none⟩) mm fC] eL nl (some ⟨gS, 0, none⟩) mm V ∧ Blk (wa.alloc (.cells #[.slice q0a q0n q0c, .slice q1a q1n q1c, .slice q2a q2n q2c, .slice q3a q3n q3c, .slice q4a q4n q4c] 24)) wa.heap.size 24 #[.slice q0a q0n q0c, .slice q1a q1n q1c, .slice q2a q2n q2c, .slice q3a q3n q3c, .slice q4a q4n q4c] ∧ ∀ t (h : t < 5), LsZ w1.heap.size (ga + 1) (wa.alloc (.cells #[.slice q0a q0n q0c, .slice q1a q1n q1c, .slice q2a q2n q2c, .slice q3a q3n q3c, .slice q4a q4n q4c] 24)) (([.slice q0a q0n q0c, .slice q1a q1n q1c, .slice q2a q2n q2c, .slice q3a q3n q3c, .slice q4a q4n q4c] : List Value)[t]'h)) := ⟨HS3a.out.grown AL, NB5, fun t ht => (QZa.out t ht).grown AL⟩
              clear HS3a AL NB NB5 QZa
              go_wp2_with fail
              clear n0 n1 n2 n3 n4
              generalize wa.alloc _ = wb at *
              generalize wa.heap.size = g4 at *
              go_loopw [96] (fun i wr => ∃ t : Nat, t ≤ 5 ∧ i = .int .i64 t ∧ Hd (Zs w1.heap.size (ga + 1) w8 wr ga #[.int .i64 x0, .int .i64 x1, .int .i64 x2, .int .i64 x3, .slice eL nl eC, .slice (some ⟨gS, 0, none⟩) mm fC] eL nl (some ⟨gS, 0, none⟩) mm V ∧ Blk wr g4 24 #[.slice q0a q0n q0c, .slice q1a q1n q1c, .slice q2a q2n q2c, .slice q3a q3n q3c, .slice q4a q4n q4c] ∧ ∀ t (h : t < 5), LsZ w1.heap.size (ga + 1) wr (([.slice q0a q0n q0c, .slice q1a q1n q1c, .slice q2a q2n q2c, .slice q3a q3n q3c, .slice q4a q4n q4c] : List Value)[t]'h))) (fun i _ => 5 - (intOf i).toNat)
              case atStart => exact ⟨0, Nat.zero_le _, rfl, HS4⟩
              case round =>
                obtain ⟨t, ht, rfl, hS5⟩ := hrel
                clear HS4
                by_cases hlt3 : t < 5
                · obtain ⟨la, ln, lc, le, ln9, -⟩ := hS5.out.2.2 t hlt3
                  have c5 : wr.cell? ⟨g4, t, none⟩ = some (.slice la ln lc) := by
                    rw [hS5.out.2.1.cell, ← le]
                    exact list5 _ _ _ _ _ t hlt3
                  have HLE : Hd (∀ h : t < 5, ([.slice q0a q0n q0c, .slice q1a q1n q1c, .slice q2a q2n q2c, .slice q3a q3n q3c, .slice q4a q4n q4c] : List Value)[t]'h = .slice la ln lc) := ⟨fun _ => le⟩
                  have HT : Hd (t < 5) := ⟨hlt3⟩
                  obtain ⟨wq3, rfl⟩ : ∃ wq : World, wq = wr := ⟨_, rfl⟩
                  clear le
                  go_wp2_with fail
                  clear c5
                  go_loopw [14] (fun i wr => ∃ z : Nat, z ≤ ln ∧ i = .int .i64 z ∧ Hd (Zs w1.heap.size (ga + 1) w8 wr ga #[.int .i64 x0, .int .i64 x1, .int .i64 x2, .int .i64 x3, .slice eL nl eC, .slice (some ⟨gS, 0, none⟩) mm fC] eL nl (some ⟨gS, 0, none⟩) mm V ∧ Blk wr g4 24 #[.slice q0a q0n q0c, .slice q1a q1n q1c, .slice q2a q2n q2c, .slice q3a q3n q3c, .slice q4a q4n q4c] ∧ ∀ t (h : t < 5), LsZ w1.heap.size (ga + 1) wr (([.slice q0a q0n q0c, .slice q1a q1n q1c, .slice q2a q2n q2c, .slice q3a q3n q3c, .slice q4a q4n q4c] : List Value)[t]'h))) (fun i _ => ln - (intOf i).toNat)
                  case atStart => exact ⟨0, Nat.zero_le _, rfl, hS5⟩
                  case round =>
                    obtain ⟨z, hz, rfl, hS6⟩ := hrel
                    clear hS5
                    by_cases hlt4 : z < ln
                    · obtain ⟨la', ln', lc', le', -, lrow⟩ := hS6.out.2.2 t HT.out
                      rw [HLE.out HT.out] at le'
                      injection le' with q1 q2 q3
                      subst q1 q2 q3
                      obtain ⟨b, off, rfl, hBb, hRm⟩ := lrow (by omega)
                      obtain ⟨⟨y, hy⟩, hf⟩ := hRm.cell (i := off + z) (by omega)
                      have HZ : Hd (z < ln) := ⟨hlt4⟩
                      obtain ⟨cur9, hb9, -⟩ := id hRm
                      have NX : Hd _ := ⟨And.intro (hS6.out.1.text (i := off + z) hRm hBb (.string ⟨#[115, 112, 111, 105, 108, 116]⟩)) (And.intro (hS6.out.2.1.other (p := ⟨b, off + z, none⟩) (fun e => hb9.ne hS6.out.2.1 (by decide) e.symm) (.string ⟨#[115, 112, 111, 105, 108, 116]⟩)) (fun t ht => (hS6.out.2.2 t ht).any (g := b) (i := off + z) (.string ⟨#[115, 112, 111, 105, 108, 116]⟩)))⟩
                      clear hRm lrow hS6 hb9
                      go_wp2_with fail
                      go_roundw
                      case rel => exact ⟨z + 1, HZ.out, by go_num, NX⟩
                      case measure => have := HZ.out; simp [intOf]; omega
                    · obtain rfl : z = ln := by omega
                      go_wp2_with fail
                      go_roundw
                      case rel => exact ⟨t + 1, HT.out, by go_num, hS6⟩
                      case measure => have := HT.out; simp [intOf]; omega
                · obtain rfl : t = 5 := by omega
                  have e5 := hS5.out.1.box.cellv (v := .slice (some ⟨gS, 0, none⟩) mm fC) 5 rfl
                  have y4 := Y4.out wr hS5.out.1.z
                  obtain ⟨a9, n9', c9, e9, -, hRZ⟩ := hS5.out.1.z.rls k HK.out.2
                  rw [HEV.out] at e9
                  injection e9 with e9a e9b e9c
                  subst e9a e9b e9c
                  have hplt := HP.out
                  obtain ⟨g3', cur3, e3, hB3, hg3, hs3, -⟩ := hRZ (by omega)
                  injection e3 with e3
                  injection e3 with e3
                  subst e3
                  have hRm : Rm wr g3 51 (rn * 5) := ⟨cur3, hg3, hs3⟩
                  obtain ⟨⟨y0, z0⟩, f0⟩ := hRm.cell (i := p * 5) (by omega)
                  obtain ⟨⟨y1, z1⟩, f1⟩ := hRm.cell (i := p * 5 + 1) (by omega)
                  obtain ⟨⟨y2, z2⟩, f2⟩ := hRm.cell (i := p * 5 + 2) (by omega)
                  obtain ⟨⟨y3, z3⟩, f3⟩ := hRm.cell (i := p * 5 + 3) (by omega)
                  obtain ⟨⟨y5, z4⟩, f4⟩ := hRm.cell (i := p * 5 + 4) (by omega)
                  have NX : Hd _ := ⟨hS5.out.1.wipe (i := p * 5) hg3 hB3⟩
                  clear hRm hS5 hRZ hg3 hs3
                  go_wp2_with fail
                  go_roundw
                  case rel => exact ⟨p + 1, HP.out, by go_num, NX⟩
                  case measure => have := HP.out; simp [intOf]; omega
            · obtain rfl : p = rn := by omega
              go_wp2_with fail
              go_roundw
              case rel => exact ⟨k + 1, HK.out.1, by go_num, hS3⟩
              case measure => have := HK.out.1; simp [intOf]; omega
        · obtain rfl : k = mm := by omega
          have KP := hS2.out.kep
          have BW : Below w.heap.size w wr := HBL.out.trans (KP.below HBL.out.size (fun t ht => by have := HSZ.out.2.1; omega))
          have T9 : Tw gb gw #[.int .i64 x0, .int .i64 x1, .int .i64 x2, .int .i64 x3, .slice bL nb bC, .slice bS mb cC] #[.int .i64 x0, .int .i64 x1, .int .i64 x2, .int .i64 x3, .slice gL nw gC, .slice gS' mw hC] wr := ⟨HTW.out.t.b2.kept KP (fun e => by have := HGB.out; omega), HTW.out.e.kept KP (fun e => by have := HGB.out; omega)⟩
          have RB := HBK.out wr KP
          have RW := HWK.out wr KP
          have P9 := HPC.out wr BW
          clear hS2 KP HBK HWK HTW
          go_wp2_with fail
          go_at_call 9
          refine P9.mono ?_
          intro e w9 h9
          have b9 := h9.bel
          obtain ⟨kL, nc, kC, kS, mc, lC, rfl, hc⟩ := pr_shape h9
          rw [HXS.out.1, HXS.out.2.1, HXS.out.2.2.1, HXS.out.2.2.2] at hc ⊢
          have AL9 := alloc_below w9 (.cells #[.int .i64 x0, .int .i64 x1, .int .i64 x2, .int .i64 x3, .slice kL nc kC, .slice kS mc lC] 30)
          have T10 : Th gb gw w9.heap.size #[.int .i64 x0, .int .i64 x1, .int .i64 x2, .int .i64 x3, .slice bL nb bC, .slice bS mb cC] #[.int .i64 x0, .int .i64 x1, .int .i64 x2, .int .i64 x3, .slice gL nw gC, .slice gS' mw hC] #[.int .i64 x0, .int .i64 x1, .int .i64 x2, .int .i64 x3, .slice kL nc kC, .slice kS mc lC] (w9.alloc (.cells #[.int .i64 x0, .int .i64 x1, .int .i64 x2, .int .i64 x3, .slice kL nc kC, .slice kS mc lC] 30)) := ⟨(T9.kept (Kept.of_below b9 (fun _ => False)) id).kept (Kept.of_below AL9 (fun _ => False)) id, Blk.new w9 30 _⟩
          have B9 : Below wr.heap.size wr (w9.alloc (.cells #[.int .i64 x0, .int .i64 x1, .int .i64 x2, .int .i64 x3, .slice kL nc kC, .slice kS mc lC] 30)) := b9.trans (AL9.mono b9.size)
          have BWX : Hd (Below w.heap.size w (w9.alloc (.cells #[.int .i64 x0, .int .i64 x1, .int .i64 x2, .int .i64 x3, .slice kL nc kC, .slice kS mc lC] 30))) := ⟨BW.trans (B9.mono BW.size)⟩
          have RB9 : Hd _ := ⟨RB.carry B9⟩
          have RW9 : Hd _ := ⟨RW.carry B9⟩
          have RC9 : Hd _ := ⟨(cfb_read hc hfit).carry AL9⟩
          clear h9 b9 hc AL9 T9 B9 RB RW P9 BW
          simp only
          go_upto_region 31 with fail
          generalize w9.alloc _ = w11 at *
          generalize w9.heap.size = gq at *
          have DR : Below w11.heap.size w11 w11.drew := ⟨rfl, rfl, rfl, Nat.le_refl _, fun _ _ => rfl⟩
          have A0 := T10.kept (Kept.of_below DR (fun _ => False)) id
          refine AnyG.start (T := Th gb gw gq #[.int .i64 x0, .int .i64 x1, .int .i64 x2, .int .i64 x3, .slice bL nb bC, .slice bS mb cC] #[.int .i64 x0, .int .i64 x1, .int .i64 x2, .int .i64 x3, .slice gL nw gC, .slice gS' mw hC] #[.int .i64 x0, .int .i64 x1, .int .i64 x2, .int .i64 x3, .slice kL nc kC, .slice kS mc lC]) (U := fun _ => True) (j0 := 100) (by kernel_rfl) ?_
          have B0 : Below w11.heap.size w11 w11.drew := DR
          clear DR T10
          generalize w11.drew = w0 at *
          refine AnyG.takeAt 0 124 (v := ?_) rfl rfl (by kernel_rfl) (by kernel_rfl) (by kernel_rfl) (by decide) (fun _ _ _ h => h) ⟨A0, fun _ => trivial⟩ (by rfl) ?_ ?_
          rotate_left
          · intro w hSw
            have s10 := hSw.t.b1.cellv (v := .int .i64 x0) 0 rfl
            have s11 := hSw.t.b1.cellv (v := .int .i64 x1) 1 rfl
            have s12 := hSw.t.b1.cellv (v := .int .i64 x2) 2 rfl
            have s13 := hSw.t.b1.cellv (v := .int .i64 x3) 3 rfl
            have s14 := hSw.t.b1.cellv (v := .slice bL nb bC) 4 rfl
            have s15 := hSw.t.b1.cellv (v := .slice bS mb cC) 5 rfl
            go_simp
            rfl
          simp only [List.setIfInBounds_toArray, List.set_cons_zero, List.set_cons_succ]
          refine AnyG.takeAt 1 125 (v := ?_) rfl rfl (by kernel_rfl) (by kernel_rfl) (by kernel_rfl) (by decide) (fun _ _ _ h => h) ⟨A0, fun _ => trivial⟩ (by rfl) ?_ ?_
          rotate_left
          · intro w hSw
            have s10 := hSw.t.b2.cellv (v := .int .i64 x0) 0 rfl
            have s11 := hSw.t.b2.cellv (v := .int .i64 x1) 1 rfl
            have s12 := hSw.t.b2.cellv (v := .int .i64 x2) 2 rfl
            have s13 := hSw.t.b2.cellv (v := .int .i64 x3) 3 rfl
            have s14 := hSw.t.b2.cellv (v := .slice gL nw gC) 4 rfl
            have s15 := hSw.t.b2.cellv (v := .slice gS' mw hC) 5 rfl
            go_simp
            rfl
          simp only [List.setIfInBounds_toArray, List.set_cons_zero, List.set_cons_succ]
          refine AnyG.ready (rs := [2]) (by kernel_rfl) (by simp) ?_
          refine AllG.cons rfl (fun K hK => ?_) AllG.nil
          go_simp
          refine (same_cfr (RB9.out.carry B0) (RW9.out.carry B0)).mono ?_
          rintro e wk1 ⟨rfl, b1⟩
          have Ak1 := A0.kept (Kept.of_below b1 (fun _ => False)) id
          have Bk1 : Below w11.heap.size w11 wk1 := B0.trans (b1.mono B0.size)
          refine hK.out _ _ ⟨Ak1, fun _ => trivial⟩ ?_
          clear hK K b1 A0 B0
          refine AnyG.takeAt 3 127 (v := ?_) rfl rfl (by kernel_rfl) (by kernel_rfl) (by kernel_rfl) (by decide) (fun _ _ _ h => h) ⟨Ak1, fun _ => trivial⟩ (by rfl) ?_ ?_
          rotate_left
          · intro w hSw
            go_simp
            rfl
          simp only [List.setIfInBounds_toArray, List.set_cons_zero, List.set_cons_succ]
          refine AnyG.takeAt 4 128 (v := ?_) rfl rfl (by kernel_rfl) (by kernel_rfl) (by kernel_rfl) (by decide) (fun _ _ _ h => h) ⟨Ak1, fun _ => trivial⟩ (by rfl) ?_ ?_
          rotate_left
          · intro w hSw
            go_simp
            rfl
          simp only [List.setIfInBounds_toArray, List.set_cons_zero, List.set_cons_succ]
          refine AnyG.takeAt 5 129 (v := ?_) rfl rfl (by kernel_rfl) (by kernel_rfl) (by kernel_rfl) (by decide) (fun _ _ _ h => h) ⟨Ak1, fun _ => trivial⟩ (by rfl) ?_ ?_
          rotate_left
          · intro w hSw
            go_simp
            rfl
          simp only [List.setIfInBounds_toArray, List.set_cons_zero, List.set_cons_succ]
          refine AnyG.takeAt 6 130 (v := ?_) rfl rfl (by kernel_rfl) (by kernel_rfl) (by kernel_rfl) (by decide) (fun _ _ _ h => h) ⟨Ak1, fun _ => trivial⟩ (by rfl) ?_ ?_
          rotate_left
          · intro w hSw
            go_simp
            rfl
          simp only [List.setIfInBounds_toArray, List.set_cons_zero, List.set_cons_succ]
          refine AnyG.takeAt 7 131 (v := ?_) rfl rfl (by kernel_rfl) (by kernel_rfl) (by kernel_rfl) (by decide) (fun _ _ _ h => h) ⟨Ak1, fun _ => trivial⟩ (by rfl) ?_ ?_
          rotate_left
          · intro w hSw
            go_simp
            rfl
          simp only [List.setIfInBounds_toArray, List.set_cons_zero, List.set_cons_succ]
          refine AnyG.takeAt 8 132 (v := ?_) rfl rfl (by kernel_rfl) (by kernel_rfl) (by kernel_rfl) (by decide) (fun _ _ _ h => h) ⟨Ak1, fun _ => trivial⟩ (by rfl) ?_ ?_
          rotate_left
          · intro w hSw
            go_simp
            rfl
          simp only [List.setIfInBounds_toArray, List.set_cons_zero, List.set_cons_succ]
          refine AnyG.takeAt 9 133 (v := ?_) rfl rfl (by kernel_rfl) (by kernel_rfl) (by kernel_rfl) (by decide) (fun _ _ _ h => h) ⟨Ak1, fun _ => trivial⟩ (by rfl) ?_ ?_
          rotate_left
          · intro w hSw
            go_simp
            rfl
          simp only [List.setIfInBounds_toArray, List.set_cons_zero, List.set_cons_succ]
          refine AnyG.takeAt 10 134 (v := ?_) rfl rfl (by kernel_rfl) (by kernel_rfl) (by kernel_rfl) (by decide) (fun _ _ _ h => h) ⟨Ak1, fun _ => trivial⟩ (by rfl) ?_ ?_
          rotate_left
          · intro w hSw
            go_simp
            rfl
          simp only [List.setIfInBounds_toArray, List.set_cons_zero, List.set_cons_succ]
          refine AnyG.takeAt 11 135 (v := ?_) rfl rfl (by kernel_rfl) (by kernel_rfl) (by kernel_rfl) (by decide) (fun _ _ _ h => h) ⟨Ak1, fun _ => trivial⟩ (by rfl) ?_ ?_
          rotate_left
          · intro w hSw
            have s10 := hSw.e.cellv (v := .int .i64 x0) 0 rfl
            have s11 := hSw.e.cellv (v := .int .i64 x1) 1 rfl
            have s12 := hSw.e.cellv (v := .int .i64 x2) 2 rfl
            have s13 := hSw.e.cellv (v := .int .i64 x3) 3 rfl
            have s14 := hSw.e.cellv (v := .slice kL nc kC) 4 rfl
            have s15 := hSw.e.cellv (v := .slice kS mc lC) 5 rfl
            go_simp
            rfl
          simp only [List.setIfInBounds_toArray, List.set_cons_zero, List.set_cons_succ]
          refine AnyG.takeAt 12 136 (v := ?_) rfl rfl (by kernel_rfl) (by kernel_rfl) (by kernel_rfl) (by decide) (fun _ _ _ h => h) ⟨Ak1, fun _ => trivial⟩ (by rfl) ?_ ?_
          rotate_left
          · intro w hSw
            have s10 := hSw.t.b2.cellv (v := .int .i64 x0) 0 rfl
            have s11 := hSw.t.b2.cellv (v := .int .i64 x1) 1 rfl
            have s12 := hSw.t.b2.cellv (v := .int .i64 x2) 2 rfl
            have s13 := hSw.t.b2.cellv (v := .int .i64 x3) 3 rfl
            have s14 := hSw.t.b2.cellv (v := .slice gL nw gC) 4 rfl
            have s15 := hSw.t.b2.cellv (v := .slice gS' mw hC) 5 rfl
            go_simp
            rfl
          simp only [List.setIfInBounds_toArray, List.set_cons_zero, List.set_cons_succ]
          refine AnyG.ready (rs := [13]) (by kernel_rfl) (by simp) ?_
          refine AllG.cons rfl (fun K hK => ?_) AllG.nil
          go_simp
          refine (same_cfr (RC9.out.carry Bk1) (RW9.out.carry Bk1)).mono ?_
          rintro e wk2 ⟨rfl, b2⟩
          have Ak2 := Ak1.kept (Kept.of_below b2 (fun _ => False)) id
          have Bk2 : Below w11.heap.size w11 wk2 := Bk1.trans (b2.mono Bk1.size)
          refine hK.out _ _ ⟨Ak2, fun _ => trivial⟩ ?_
          clear hK K b2 Ak1 Bk1
          refine AnyG.takeAt 14 138 (v := ?_) rfl rfl (by kernel_rfl) (by kernel_rfl) (by kernel_rfl) (by decide) (fun _ _ _ h => h) ⟨Ak2, fun _ => trivial⟩ (by rfl) ?_ ?_
          rotate_left
          · intro w hSw
            go_simp
            rfl
          simp only [List.setIfInBounds_toArray, List.set_cons_zero, List.set_cons_succ]
          refine AnyG.takeAt 15 2 (v := ?_) rfl rfl (by kernel_rfl) (by kernel_rfl) (by kernel_rfl) (by decide) (fun _ _ _ h => h) ⟨Ak2, fun _ => trivial⟩ (by rfl) ?_ ?_
          rotate_left
          · intro w hSw
            go_simp
            rfl
          simp only [List.setIfInBounds_toArray, List.set_cons_zero, List.set_cons_succ]
          refine AnyG.done (by kernel_rfl) ?_ _
          go_wp2_with fail
          go_ret
          exact ⟨rfl, BWX.out.trans (Bk2.mono BWX.out.size)⟩
set_option maxRecDepth 20000 in
set_option maxHeartbeats 16000000 in
theorem apart_err (s : ByteArray) (et : Nat) (ex : Value) (w : World) (hs : s.size ≤ 9223372036854775807) (AW : Calls Tryd.prog 7 #[] w fun e w' => e = .returned (.bool true) ∧ Below w.heap.size w w')
    (P : ∀ W, Below w.heap.size w W → Calls Tryd.prog 9 #[.string s] W fun e w' => PR W s (.iface et ex) e w') : Calls Tryd.prog 6 #[.string s] w fun e w' => e = .returned (.bool true) ∧ Below w.heap.size w w' := by
  obtain ⟨hbnd, hfit⟩ := formed_all (par_any s)
  have HP : Hd _ := ⟨P⟩
  clear P
  go_enter Tryd.func6, Tryd.ntmps6
  go_wp2_with fail
  go_at_call 7
  refine AW.mono ?_
  rintro e w1 ⟨rfl, b1⟩
  by_cases h8 : 8000 < s.size
  · go_wp2_with fail
    go_ret
    exact ⟨rfl, b1⟩
  have P1 := HP.out w1 b1
  go_wp2_with fail
  go_at_call 9
  refine P1.mono ?_
  intro e w2 h2
  have b2 := h2.bel
  obtain ⟨eL, nn, eC, eS, mm, fC, rfl, ha⟩ := pr_shape h2
  clear P1 h2
  have HB2 : Hd (Below w.heap.size w w2) := ⟨b1.trans (b2.mono b1.size)⟩
  have HPC : Hd (∀ W, Below w.heap.size w W → Calls Tryd.prog 9 #[.string s] W fun e w' => PR W s (.iface et ex) e w') := ⟨HP.out⟩
  clear HP
  have HX : Hd (parC s = parC s) := ⟨rfl⟩
  generalize hx0 : (parC s).total = x0 at *
  generalize hx1 : (parC s).period = x1 at *
  generalize hx2 : (parC s).perSeat = x2 at *
  generalize hx3 : (parC s).most = x3 at *
  have HXS : Hd ((parC s).total = x0 ∧ (parC s).period = x1 ∧ (parC s).perSeat = x2 ∧ (parC s).most = x3) := ⟨hx0, hx1, hx2, hx3⟩
  clear hx0 hx1 hx2 hx3 HX
  have AL3 := alloc_below w2 (.cells #[.int .i64 x0, .int .i64 x1, .int .i64 x2, .int .i64 x3, .slice eL nn eC, .slice eS mm fC] 30)
  have NB3 := Blk.new w2 30 #[.int .i64 x0, .int .i64 x1, .int .i64 x2, .int .i64 x3, .slice eL nn eC, .slice eS mm fC]
  have b3 : Below w.heap.size w (w2.alloc (.cells #[.int .i64 x0, .int .i64 x1, .int .i64 x2, .int .i64 x3, .slice eL nn eC, .slice eS mm fC] 30)) := HB2.out.trans (AL3.mono HB2.out.size)
  obtain ⟨V, hz, n7, m7⟩ := cfb_room (N := w2.heap.size + 1) ha hbnd (by omega)
  have HZ3 : Hd (Zv w1.heap.size (w2.heap.size + 1) (w2.alloc (.cells #[.int .i64 x0, .int .i64 x1, .int .i64 x2, .int .i64 x3, .slice eL nn eC, .slice eS mm fC] 30)) eL nn eS mm V) := ⟨hz.grown AL3⟩
  have HRA : Hd (CfR (w2.alloc (.cells #[.int .i64 x0, .int .i64 x1, .int .i64 x2, .int .i64 x3, .slice eL nn eC, .slice eS mm fC] 30)) (.agg #[.int .i64 x0, .int .i64 x1, .int .i64 x2, .int .i64 x3, .slice eL nn eC, .slice eS mm fC]) (parC s)) := ⟨by
    have h0 := (cfb_read ha hfit).carry AL3
    exact h0⟩
  have P3 := HPC.out _ b3
  have HSZ : Hd ((w2.alloc (.cells #[.int .i64 x0, .int .i64 x1, .int .i64 x2, .int .i64 x3, .slice eL nn eC, .slice eS mm fC] 30)).heap.size = w2.heap.size + 1 ∧ w.heap.size ≤ w1.heap.size ∧ w1.heap.size ≤ w2.heap.size) := ⟨by simp, b1.size, b2.size⟩
  clear ha hz b2 b1 AW h8 AL3
  simp only
  go_upto_region 6 with fail
  generalize w2.alloc _ = w3 at *
  go_wp2_with fail
  go_at_call 9
  refine P3.mono ?_
  intro e w4 h4
  have b4 := h4.bel
  obtain ⟨bL, nb, bC, bS, mb, cC, rfl, hb⟩ := pr_shape h4
  clear P3 h4
  rw [HXS.out.1, HXS.out.2.1, HXS.out.2.2.1, HXS.out.2.2.2] at hb ⊢
  obtain ⟨ga, hga⟩ : ∃ ga, ga = w2.heap.size := ⟨_, rfl⟩
  rw [← hga] at NB3 HZ3 HSZ ⊢
  have AL5 := alloc_below w4 (.cells #[.int .i64 x0, .int .i64 x1, .int .i64 x2, .int .i64 x3, .slice bL nb bC, .slice bS mb cC] 30)
  have B45 : Below w3.heap.size w3 (w4.alloc (.cells #[.int .i64 x0, .int .i64 x1, .int .i64 x2, .int .i64 x3, .slice bL nb bC, .slice bS mb cC] 30)) := b4.trans (AL5.mono b4.size)
  have T5 : Tw ga w4.heap.size #[.int .i64 x0, .int .i64 x1, .int .i64 x2, .int .i64 x3, .slice eL nn eC, .slice eS mm fC] #[.int .i64 x0, .int .i64 x1, .int .i64 x2, .int .i64 x3, .slice bL nb bC, .slice bS mb cC] (w4.alloc (.cells #[.int .i64 x0, .int .i64 x1, .int .i64 x2, .int .i64 x3, .slice bL nb bC, .slice bS mb cC] 30)) := ⟨(NB3.kept (Kept.of_below b4 (fun _ => False)) id).alloc _, Blk.new w4 30 _⟩
  have HBB : Hd (CfB w3.heap.size (w4.alloc (.cells #[.int .i64 x0, .int .i64 x1, .int .i64 x2, .int .i64 x3, .slice bL nb bC, .slice bS mb cC] 30)) (.agg #[.int .i64 x0, .int .i64 x1, .int .i64 x2, .int .i64 x3, .slice bL nb bC, .slice bS mb cC]) (parC s)) := ⟨by
    obtain ⟨vL, vS, V', e, hL, hS⟩ := hb
    have k : Kept (fun k => w3.heap.size ≤ k ∧ k < w3.heap.size) w4 (w4.alloc (.cells #[.int .i64 x0, .int .i64 x1, .int .i64 x2, .int .i64 x3, .slice bL nb bC, .slice bS mb cC] 30)) := Kept.of_below AL5 _
    exact cfb_abv ⟨vL, vS, V', e, hL, hS⟩ k⟩
  have B35 : Below w.heap.size w w3 := b3
  have HZ5 : Hd (Zv w1.heap.size (ga + 1) (w4.alloc (.cells #[.int .i64 x0, .int .i64 x1, .int .i64 x2, .int .i64 x3, .slice bL nb bC, .slice bS mb cC] 30)) eL nn eS mm V) := ⟨HZ3.out.grown B45⟩
  have HRA5 : Hd (CfR (w4.alloc (.cells #[.int .i64 x0, .int .i64 x1, .int .i64 x2, .int .i64 x3, .slice bL nb bC, .slice bS mb cC] 30)) (.agg #[.int .i64 x0, .int .i64 x1, .int .i64 x2, .int .i64 x3, .slice eL nn eC, .slice eS mm fC]) (parC s)) := ⟨HRA.out.carry B45⟩
  have HRB5 : Hd (CfR (w4.alloc (.cells #[.int .i64 x0, .int .i64 x1, .int .i64 x2, .int .i64 x3, .slice bL nb bC, .slice bS mb cC] 30)) (.agg #[.int .i64 x0, .int .i64 x1, .int .i64 x2, .int .i64 x3, .slice bL nb bC, .slice bS mb cC]) (parC s)) := ⟨cfb_read HBB.out hfit⟩
  have HGB0 : Hd (ga + 1 ≤ w4.heap.size) := ⟨by have := b4.size; have := HSZ.out.1; omega⟩
  clear hb b4 AL5 NB3 HZ3 HRA hga b3
  simp only
  go_upto_region 7 with fail
  generalize w4.alloc _ = w5 at *
  generalize w4.heap.size = gb at *
  have DR : Below w5.heap.size w5 w5.drew := ⟨rfl, rfl, rfl, Nat.le_refl _, fun _ _ => rfl⟩
  have A0 := T5.kept (Kept.of_below DR (fun _ => False)) id
  refine AnyG.start (T := Tw ga gb #[.int .i64 x0, .int .i64 x1, .int .i64 x2, .int .i64 x3, .slice eL nn eC, .slice eS mm fC] #[.int .i64 x0, .int .i64 x1, .int .i64 x2, .int .i64 x3, .slice bL nb bC, .slice bS mb cC]) (U := fun _ => True) (j0 := 100) (by kernel_rfl) ?_
  have B0 : Below w5.heap.size w5 w5.drew := DR
  clear DR T5
  generalize w5.drew = w0 at *
  refine AnyG.takeAt 0 32 (v := ?_) rfl rfl (by kernel_rfl) (by kernel_rfl) (by kernel_rfl) (by decide) (fun _ _ _ h => h) ⟨A0, fun _ => trivial⟩ (by rfl) ?_ ?_
  rotate_left
  · intro w hSw
    go_simp
    rfl
  simp only [List.setIfInBounds_toArray, List.set_cons_zero, List.set_cons_succ]
  refine AnyG.takeAt 1 33 (v := ?_) rfl rfl (by kernel_rfl) (by kernel_rfl) (by kernel_rfl) (by decide) (fun _ _ _ h => h) ⟨A0, fun _ => trivial⟩ (by rfl) ?_ ?_
  rotate_left
  · intro w hSw
    go_simp
    rfl
  simp only [List.setIfInBounds_toArray, List.set_cons_zero, List.set_cons_succ]
  refine AnyG.takeAt 2 34 (v := ?_) rfl rfl (by kernel_rfl) (by kernel_rfl) (by kernel_rfl) (by decide) (fun _ _ _ h => h) ⟨A0, fun _ => trivial⟩ (by rfl) ?_ ?_
  rotate_left
  · intro w hSw
    go_simp
    rfl
  simp only [List.setIfInBounds_toArray, List.set_cons_zero, List.set_cons_succ]
  refine AnyG.takeAt 3 35 (v := ?_) rfl rfl (by kernel_rfl) (by kernel_rfl) (by kernel_rfl) (by decide) (fun _ _ _ h => h) ⟨A0, fun _ => trivial⟩ (by rfl) ?_ ?_
  rotate_left
  · intro w hSw
    go_simp
    rfl
  simp only [List.setIfInBounds_toArray, List.set_cons_zero, List.set_cons_succ]
  refine AnyG.takeAt 4 36 (v := ?_) rfl rfl (by kernel_rfl) (by kernel_rfl) (by kernel_rfl) (by decide) (fun _ _ _ h => h) ⟨A0, fun _ => trivial⟩ (by rfl) ?_ ?_
  rotate_left
  · intro w hSw
    go_simp
    rfl
  simp only [List.setIfInBounds_toArray, List.set_cons_zero, List.set_cons_succ]
  refine AnyG.takeAt 5 37 (v := ?_) rfl rfl (by kernel_rfl) (by kernel_rfl) (by kernel_rfl) (by decide) (fun _ _ _ h => h) ⟨A0, fun _ => trivial⟩ (by rfl) ?_ ?_
  rotate_left
  · intro w hSw
    go_simp
    rfl
  simp only [List.setIfInBounds_toArray, List.set_cons_zero, List.set_cons_succ]
  refine AnyG.takeAt 6 38 (v := ?_) rfl rfl (by kernel_rfl) (by kernel_rfl) (by kernel_rfl) (by decide) (fun _ _ _ h => h) ⟨A0, fun _ => trivial⟩ (by rfl) ?_ ?_
  rotate_left
  · intro w hSw
    have s10 := hSw.b1.cellv (v := .int .i64 x0) 0 rfl
    have s11 := hSw.b1.cellv (v := .int .i64 x1) 1 rfl
    have s12 := hSw.b1.cellv (v := .int .i64 x2) 2 rfl
    have s13 := hSw.b1.cellv (v := .int .i64 x3) 3 rfl
    have s14 := hSw.b1.cellv (v := .slice eL nn eC) 4 rfl
    have s15 := hSw.b1.cellv (v := .slice eS mm fC) 5 rfl
    go_simp
    rfl
  simp only [List.setIfInBounds_toArray, List.set_cons_zero, List.set_cons_succ]
  refine AnyG.takeAt 7 39 (v := ?_) rfl rfl (by kernel_rfl) (by kernel_rfl) (by kernel_rfl) (by decide) (fun _ _ _ h => h) ⟨A0, fun _ => trivial⟩ (by rfl) ?_ ?_
  rotate_left
  · intro w hSw
    have s10 := hSw.b2.cellv (v := .int .i64 x0) 0 rfl
    have s11 := hSw.b2.cellv (v := .int .i64 x1) 1 rfl
    have s12 := hSw.b2.cellv (v := .int .i64 x2) 2 rfl
    have s13 := hSw.b2.cellv (v := .int .i64 x3) 3 rfl
    have s14 := hSw.b2.cellv (v := .slice bL nb bC) 4 rfl
    have s15 := hSw.b2.cellv (v := .slice bS mb cC) 5 rfl
    go_simp
    rfl
  simp only [List.setIfInBounds_toArray, List.set_cons_zero, List.set_cons_succ]
  refine AnyG.ready (rs := [8]) (by kernel_rfl) (by simp) ?_
  refine AllG.cons rfl (fun K hK => ?_) AllG.nil
  go_simp
  refine (same_cfr (HRA5.out.carry B0) (HRB5.out.carry B0)).mono ?_
  rintro e wk1 ⟨rfl, b1⟩
  have Ak1 := A0.kept (Kept.of_below b1 (fun _ => False)) id
  have Bk1 : Below w5.heap.size w5 wk1 := B0.trans (b1.mono B0.size)
  refine hK.out _ _ ⟨Ak1, fun _ => trivial⟩ ?_
  clear hK K b1 A0 B0
  refine AnyG.takeAt 9 41 (v := ?_) rfl rfl (by kernel_rfl) (by kernel_rfl) (by kernel_rfl) (by decide) (fun _ _ _ h => h) ⟨Ak1, fun _ => trivial⟩ (by rfl) ?_ ?_
  rotate_left
  · intro w hSw
    go_simp
    rfl
  simp only [List.setIfInBounds_toArray, List.set_cons_zero, List.set_cons_succ]
  refine AnyG.takeAt 10 42 (v := ?_) rfl rfl (by kernel_rfl) (by kernel_rfl) (by kernel_rfl) (by decide) (fun _ _ _ h => h) ⟨Ak1, fun _ => trivial⟩ (by rfl) ?_ ?_
  rotate_left
  · intro w hSw
    go_simp
    rfl
  simp only [List.setIfInBounds_toArray, List.set_cons_zero, List.set_cons_succ]
  refine AnyG.done (by kernel_rfl) ?_ _
  have HZ6 : Hd _ := ⟨HZ5.out.grown Bk1⟩
  have HBB6 : Hd (CfB w3.heap.size wk1 (.agg #[.int .i64 x0, .int .i64 x1, .int .i64 x2, .int .i64 x3, .slice bL nb bC, .slice bS mb cC]) (parC s)) := ⟨cfb_abv (B := w3.heap.size) HBB.out (Kept.of_below Bk1 _)⟩
  have CP := copy_ok _ _ wk1 (HRB5.out.carry Bk1) hbnd
  have T6 : Hd _ := ⟨Ak1⟩
  have B36 : Hd (Below w3.heap.size w3 wk1) := ⟨B45.trans (Bk1.mono B45.size)⟩
  clear HZ5 HBB HRA5 HRB5 B45
  generalize wk1 = w6 at *
  have c0 := T6.out.b2.cellv (v := .int .i64 x0) 0 rfl
  have c1 := T6.out.b2.cellv (v := .int .i64 x1) 1 rfl
  have c2 := T6.out.b2.cellv (v := .int .i64 x2) 2 rfl
  have c3 := T6.out.b2.cellv (v := .int .i64 x3) 3 rfl
  have c4 := T6.out.b2.cellv (v := .slice bL nb bC) 4 rfl
  have c5 := T6.out.b2.cellv (v := .slice bS mb cC) 5 rfl
  go_wp2_with fail
  go_at_call 14
  refine CP.mono ?_
  rintro e w7 ⟨⟨vw, rfl, hw⟩, b7⟩

  obtain ⟨vL, vS, V2, rfl, hvL, hvS⟩ := hw.ex
  obtain ⟨gL, gC, e1, -⟩ := owns_read hvL
  obtain ⟨gS', hC, e2, -⟩ := owns_read hvS.own
  subst e1 e2
  rw [HXS.out.1, HXS.out.2.1, HXS.out.2.2.1, HXS.out.2.2.2] at hw ⊢
  generalize (parC s).levels.length = nw at *
  generalize (parC s).schemas.length = mw at *
  have AL8 := alloc_below w7 (.cells #[.int .i64 x0, .int .i64 x1, .int .i64 x2, .int .i64 x3, .slice gL nw gC, .slice gS' mw hC] 30)
  have B78 : Below w6.heap.size w6 (w7.alloc (.cells #[.int .i64 x0, .int .i64 x1, .int .i64 x2, .int .i64 x3, .slice gL nw gC, .slice gS' mw hC] 30)) := b7.trans (AL8.mono b7.size)
  have hsz6 := B36.out.size
  have hsz7 := b7.size
  have hN : w3.heap.size = ga + 1 := HSZ.out.1
  have T8 : Th ga gb w7.heap.size #[.int .i64 x0, .int .i64 x1, .int .i64 x2, .int .i64 x3, .slice eL nn eC, .slice eS mm fC] #[.int .i64 x0, .int .i64 x1, .int .i64 x2, .int .i64 x3, .slice bL nb bC, .slice bS mb cC] #[.int .i64 x0, .int .i64 x1, .int .i64 x2, .int .i64 x3, .slice gL nw gC, .slice gS' mw hC] (w7.alloc (.cells #[.int .i64 x0, .int .i64 x1, .int .i64 x2, .int .i64 x3, .slice gL nw gC, .slice gS' mw hC] 30)) := ⟨T6.out.kept (Kept.of_below B78 (fun _ => False)) id, Blk.new w7 30 _⟩
  have HZ8 : Hd (Zs w1.heap.size (ga + 1) (w7.alloc (.cells #[.int .i64 x0, .int .i64 x1, .int .i64 x2, .int .i64 x3, .slice gL nw gC, .slice gS' mw hC] 30)) (w7.alloc (.cells #[.int .i64 x0, .int .i64 x1, .int .i64 x2, .int .i64 x3, .slice gL nw gC, .slice gS' mw hC] 30)) ga #[.int .i64 x0, .int .i64 x1, .int .i64 x2, .int .i64 x3, .slice eL nn eC, .slice eS mm fC] eL nn eS mm V) := ⟨Kept.refl _ _, T8.t.b1, HZ6.out.grown B78⟩
  have HBK : Hd (∀ W, Kept (fun k => w1.heap.size ≤ k ∧ k < ga + 1) (w7.alloc (.cells #[.int .i64 x0, .int .i64 x1, .int .i64 x2, .int .i64 x3, .slice gL nw gC, .slice gS' mw hC] 30)) W → CfR W (.agg #[.int .i64 x0, .int .i64 x1, .int .i64 x2, .int .i64 x3, .slice bL nb bC, .slice bS mb cC]) (parC s)) := ⟨fun W k => by
    have h8 : CfB w3.heap.size (w7.alloc (.cells #[.int .i64 x0, .int .i64 x1, .int .i64 x2, .int .i64 x3, .slice gL nw gC, .slice gS' mw hC] 30)) (.agg #[.int .i64 x0, .int .i64 x1, .int .i64 x2, .int .i64 x3, .slice bL nb bC, .slice bS mb cC]) (parC s) := cfb_abv (B := w3.heap.size) HBB6.out (Kept.of_below B78 _)
    rw [hN] at h8
    exact cfb_read (cfb_abv h8 k) hfit⟩
  have HWK : Hd (∀ W, Kept (fun k => w1.heap.size ≤ k ∧ k < ga + 1) (w7.alloc (.cells #[.int .i64 x0, .int .i64 x1, .int .i64 x2, .int .i64 x3, .slice gL nw gC, .slice gS' mw hC] 30)) W → CfR W (.agg #[.int .i64 x0, .int .i64 x1, .int .i64 x2, .int .i64 x3, .slice gL nw gC, .slice gS' mw hC]) (parC s)) := ⟨fun W k => by
    have h8 := hw.grown AL8
    exact (cfw_abv h8 (by omega) k).read hfit⟩
  have HGB : Hd (ga + 1 ≤ gb ∧ ga + 1 ≤ w7.heap.size) := ⟨by
    have := T6.out.b2.lt
    exact HGB0.out, by omega⟩
  have HTW : Hd (Th ga gb w7.heap.size #[.int .i64 x0, .int .i64 x1, .int .i64 x2, .int .i64 x3, .slice eL nn eC, .slice eS mm fC] #[.int .i64 x0, .int .i64 x1, .int .i64 x2, .int .i64 x3, .slice bL nb bC, .slice bS mb cC] #[.int .i64 x0, .int .i64 x1, .int .i64 x2, .int .i64 x3, .slice gL nw gC, .slice gS' mw hC] (w7.alloc (.cells #[.int .i64 x0, .int .i64 x1, .int .i64 x2, .int .i64 x3, .slice gL nw gC, .slice gS' mw hC] 30))) := ⟨T8⟩
  have HBL : Hd (Below w.heap.size w (w7.alloc (.cells #[.int .i64 x0, .int .i64 x1, .int .i64 x2, .int .i64 x3, .slice gL nw gC, .slice gS' mw hC] 30))) := ⟨B35.trans ((B36.out.trans (B78.mono hsz6)).mono B35.size)⟩
  clear CP hw hvL hvS b7 AL8 B78 T8 hsz6 hsz7 HZ6 HBB6 T6 c0 c1 c2 c3 c4 c5 B35
  simp only
  go_upto_region 11 with fail
  generalize w7.alloc _ = w8 at *
  generalize w7.heap.size = gw at *
  go_loopw [8] (fun i wr => ∃ k : Nat, k ≤ nn ∧ i = .int .i64 k ∧ Hd (Zs w1.heap.size (ga + 1) w8 wr ga #[.int .i64 x0, .int .i64 x1, .int .i64 x2, .int .i64 x3, .slice eL nn eC, .slice eS mm fC] eL nn eS mm V)) (fun i _ => nn - (intOf i).toNat)
  case atStart => exact ⟨0, Nat.zero_le _, rfl, HZ8⟩
  case round =>
    obtain ⟨k, hk, rfl, hI⟩ := hrel
    clear HZ8
    have e4 := hI.out.box.cellv (v := .slice eL nn eC) 4 rfl
    by_cases hlt : k < nn
    · obtain ⟨g, rfl, hB, hRm⟩ := hI.out.z.lev (by omega)
      have HK : Hd (k < nn) := ⟨hlt⟩
      have at10 : ∀ j, j < 10 → (∃ y, wr.cell? ⟨g, k * 10 + j, none⟩ = some y) ∧ wr.frozen? ⟨g, k * 10 + j, none⟩ = false := fun j hj => hRm.cell (by omega)
      obtain ⟨⟨y0, z0⟩, f0⟩ : (∃ y, wr.cell? ⟨g, k * 10, none⟩ = some y) ∧ wr.frozen? ⟨g, k * 10, none⟩ = false := at10 0 (by decide)
      obtain ⟨⟨y1, z1⟩, f1⟩ : (∃ y, wr.cell? ⟨g, k * 10 + 1, none⟩ = some y) ∧ wr.frozen? ⟨g, k * 10 + 1, none⟩ = false := at10 1 (by decide)
      obtain ⟨⟨y2, z2⟩, f2⟩ : (∃ y, wr.cell? ⟨g, k * 10 + 2, none⟩ = some y) ∧ wr.frozen? ⟨g, k * 10 + 2, none⟩ = false := at10 2 (by decide)
      obtain ⟨⟨y3, z3⟩, f3⟩ : (∃ y, wr.cell? ⟨g, k * 10 + 3, none⟩ = some y) ∧ wr.frozen? ⟨g, k * 10 + 3, none⟩ = false := at10 3 (by decide)
      obtain ⟨⟨y4, z4⟩, f4⟩ : (∃ y, wr.cell? ⟨g, k * 10 + 4, none⟩ = some y) ∧ wr.frozen? ⟨g, k * 10 + 4, none⟩ = false := at10 4 (by decide)
      obtain ⟨⟨y5, z5⟩, f5⟩ : (∃ y, wr.cell? ⟨g, k * 10 + 5, none⟩ = some y) ∧ wr.frozen? ⟨g, k * 10 + 5, none⟩ = false := at10 5 (by decide)
      obtain ⟨⟨y6, z6⟩, f6⟩ : (∃ y, wr.cell? ⟨g, k * 10 + 6, none⟩ = some y) ∧ wr.frozen? ⟨g, k * 10 + 6, none⟩ = false := at10 6 (by decide)
      obtain ⟨⟨y7, z7⟩, f7⟩ : (∃ y, wr.cell? ⟨g, k * 10 + 7, none⟩ = some y) ∧ wr.frozen? ⟨g, k * 10 + 7, none⟩ = false := at10 7 (by decide)
      obtain ⟨⟨y8, z8⟩, f8⟩ : (∃ y, wr.cell? ⟨g, k * 10 + 8, none⟩ = some y) ∧ wr.frozen? ⟨g, k * 10 + 8, none⟩ = false := at10 8 (by decide)
      obtain ⟨⟨y9, z9⟩, f9⟩ : (∃ y, wr.cell? ⟨g, k * 10 + 9, none⟩ = some y) ∧ wr.frozen? ⟨g, k * 10 + 9, none⟩ = false := at10 9 (by decide)
      have NX : Hd _ := ⟨((((((((((hI.out.lev (i := k * 10) (by omega) (.string ⟨#[]⟩)).lev (i := k * 10 + 1) (by omega) (.int .i64 0)).lev (i := k * 10 + 2) (by omega) (.int .i64 0)).lev (i := k * 10 + 3) (by omega) (.int .i64 0)).lev (i := k * 10 + 4) (by omega) (.int .i64 0)).lev (i := k * 10 + 5) (by omega) (.int .i64 0)).lev (i := k * 10 + 6) (by omega) (.int .i64 0)).lev (i := k * 10 + 7) (by omega) (.int .i64 0)).lev (i := k * 10 + 8) (by omega) (.int .i64 0)).lev (i := k * 10 + 9) (by omega) (.int .i64 0))⟩
      clear at10 hRm hI
      go_wp2_with fail
      go_roundw
      case rel => exact ⟨k + 1, HK.out, by go_num, NX⟩
      case measure => have := HK.out; simp [intOf]; omega
    · obtain rfl : k = nn := by omega
      obtain ⟨nl, hnl⟩ : ∃ nl, nl = k := ⟨_, rfl⟩
      subst hnl
      obtain ⟨wq, rfl⟩ : ∃ wq : World, wq = wr := ⟨_, rfl⟩
      go_wp2_with fail
      clear e4
      go_loopw [9] (fun i wr => ∃ k : Nat, k ≤ mm ∧ i = .int .i64 k ∧ Hd (Zs w1.heap.size (ga + 1) w8 wr ga #[.int .i64 x0, .int .i64 x1, .int .i64 x2, .int .i64 x3, .slice eL nl eC, .slice eS mm fC] eL nl eS mm V)) (fun i _ => mm - (intOf i).toNat)
      case atStart => exact ⟨0, Nat.zero_le _, rfl, hI⟩
      case round =>
        obtain ⟨k, hk, rfl, hS2⟩ := hrel
        clear hI
        have e5 := hS2.out.box.cellv (v := .slice eS mm fC) 5 rfl
        by_cases hlt : k < mm
        · have hkV : k < V.length := by rw [hS2.out.z.len]; exact hlt
          obtain ⟨a, rn, rc, eV, rn9, -⟩ := hS2.out.z.rls k hkV
          obtain ⟨gS, curS, rfl, hgS, hcS⟩ := hS2.out.z.sch (by omega)
          have y4 : wr.cell? ⟨gS, k * 5 + 4, none⟩ = some (.slice a rn rc) := by rw [hgS.cell, hcS k hkV, eV]
          have HK : Hd (k < mm ∧ k < V.length) := ⟨hlt, hkV⟩
          have HEV : Hd (V[k] = .slice a rn rc) := ⟨eV⟩
          obtain ⟨wq2, rfl⟩ : ∃ wq : World, wq = wr := ⟨_, rfl⟩
          clear hcS hgS curS eV
          go_wp2_with fail
          clear e5 y4
          go_loopw [10] (fun i wr => ∃ p : Nat, p ≤ rn ∧ i = .int .i64 p ∧ Hd (Zs w1.heap.size (ga + 1) w8 wr ga #[.int .i64 x0, .int .i64 x1, .int .i64 x2, .int .i64 x3, .slice eL nl eC, .slice (some ⟨gS, 0, none⟩) mm fC] eL nl (some ⟨gS, 0, none⟩) mm V)) (fun i _ => rn - (intOf i).toNat)
          case atStart => exact ⟨0, Nat.zero_le _, rfl, hS2⟩
          case round =>
            obtain ⟨p, hp, rfl, hS3⟩ := hrel
            clear hS2
            have e5 := hS3.out.box.cellv (v := .slice (some ⟨gS, 0, none⟩) mm fC) 5 rfl
            have Y4 : Hd (∀ W, Zv w1.heap.size (ga + 1) W eL nl (some ⟨gS, 0, none⟩) mm V → W.cell? ⟨gS, k * 5 + 4, none⟩ = some (.slice a rn rc)) := ⟨fun W h => by
              obtain ⟨g', cur, e, hg, hc⟩ := h.sch (by have := HK.out.1; omega)
              injection e with e
              injection e with e
              subst e
              rw [hg.cell, hc k HK.out.2, HEV.out]⟩
            have y4 := Y4.out wr hS3.out.z
            by_cases hlt2 : p < rn
            · obtain ⟨a9, n9', c9, e9, -, hRZ⟩ := hS3.out.z.rls k HK.out.2
              rw [HEV.out] at e9
              injection e9 with e9a e9b e9c
              subst e9a e9b e9c
              obtain ⟨g3, cur3, rfl, hB3, hg3, hs3, hc3⟩ := hRZ (by omega)
              obtain ⟨v0, t0, l0⟩ := hc3 (p * 5) (by omega)
              obtain ⟨v1, t1, l1⟩ := hc3 (p * 5 + 1) (by omega)
              obtain ⟨v2, t2, l2⟩ := hc3 (p * 5 + 2) (by omega)
              obtain ⟨v3, t3, l3⟩ := hc3 (p * 5 + 3) (by omega)
              obtain ⟨v4, t4, l4⟩ := hc3 (p * 5 + 4) (by omega)
              have QZ : Hd (∀ t (h : t < 5), LsZ w1.heap.size (ga + 1) wr (([v0, v1, v2, v3, v4] : List Value)[t]'h)) := ⟨fun t ht => by
                match t, ht with
                | 0, _ => exact l0
                | 1, _ => exact l1
                | 2, _ => exact l2
                | 3, _ => exact l3
                | 4, _ => exact l4⟩
              obtain ⟨q0a, q0n, q0c, rfl, -⟩ := id l0
              obtain ⟨q1a, q1n, q1c, rfl, -⟩ := id l1
              obtain ⟨q2a, q2n, q2c, rfl, -⟩ := id l2
              obtain ⟨q3a, q3n, q3c, rfl, -⟩ := id l3
              obtain ⟨q4a, q4n, q4c, rfl, -⟩ := id l4
              rw [← hg3.cell] at t0 t1 t2 t3 t4
              have HP : Hd (p < rn) := ⟨hlt2⟩
              have AL := alloc_below wr (.cells #[.slice q0a q0n q0c, .slice q1a q1n q1c, .slice q2a q2n q2c, .slice q3a q3n q3c, .slice q4a q4n q4c] 51)
              have NB := Blk.new wr 51 #[.slice q0a q0n q0c, .slice q1a q1n q1c, .slice q2a q2n q2c, .slice q3a q3n q3c, .slice q4a q4n q4c]
              have HS3a : Hd _ := ⟨hS3.out.grown AL⟩
              have QZa : Hd (∀ t (h : t < 5), LsZ w1.heap.size (ga + 1) (wr.alloc (.cells #[.slice q0a q0n q0c, .slice q1a q1n q1c, .slice q2a q2n q2c, .slice q3a q3n q3c, .slice q4a q4n q4c] 51)) (([.slice q0a q0n q0c, .slice q1a q1n q1c, .slice q2a q2n q2c, .slice q3a q3n q3c, .slice q4a q4n q4c] : List Value)[t]'h)) := ⟨fun t ht => (QZ.out t ht).grown AL⟩
              clear l0 l1 l2 l3 l4 hc3 hs3 hB3 hS3 AL hg3 cur3 QZ hRZ
              go_upto_region 21 with fail
              generalize wr.alloc _ = wa at *
              generalize wr.heap.size = gx at *
              clear t0 t1 t2 t3 t4 e5 y4
              have n0 := NB.cellv (v := .slice q0a q0n q0c) 0 rfl
              have n1 := NB.cellv (v := .slice q1a q1n q1c) 1 rfl
              have n2 := NB.cellv (v := .slice q2a q2n q2c) 2 rfl
              have n3 := NB.cellv (v := .slice q3a q3n q3c) 3 rfl
              have n4 := NB.cellv (v := .slice q4a q4n q4c) 4 rfl
              have AL := alloc_below wa (.cells #[.slice q0a q0n q0c, .slice q1a q1n q1c, .slice q2a q2n q2c, .slice q3a q3n q3c, .slice q4a q4n q4c] 24)
              have NB5 := Blk.new wa 24 #[.slice q0a q0n q0c, .slice q1a q1n q1c, .slice q2a q2n q2c, .slice q3a q3n q3c, .slice q4a q4n q4c]
              have HS4 : Hd (Zs w1.heap.size (ga + 1) w8 (wa.alloc (.cells #[.slice q0a q0n q0c, .slice q1a q1n q1c, .slice q2a q2n q2c, .slice q3a q3n q3c, .slice q4a q4n q4c] 24)) ga #[.int .i64 x0, .int .i64 x1, .int .i64 x2, .int .i64 x3, .slice eL nl eC, .slice (some ⟨gS, 0, none⟩) mm fC] eL nl (some ⟨gS, 0, none⟩) mm V ∧ Blk (wa.alloc (.cells #[.slice q0a q0n q0c, .slice q1a q1n q1c, .slice q2a q2n q2c, .slice q3a q3n q3c, .slice q4a q4n q4c] 24)) wa.heap.size 24 #[.slice q0a q0n q0c, .slice q1a q1n q1c, .slice q2a q2n q2c, .slice q3a q3n q3c, .slice q4a q4n q4c] ∧ ∀ t (h : t < 5), LsZ w1.heap.size (ga + 1) (wa.alloc (.cells #[.slice q0a q0n q0c, .slice q1a q1n q1c, .slice q2a q2n q2c, .slice q3a q3n q3c, .slice q4a q4n q4c] 24)) (([.slice q0a q0n q0c, .slice q1a q1n q1c, .slice q2a q2n q2c, .slice q3a q3n q3c, .slice q4a q4n q4c] : List Value)[t]'h)) := ⟨HS3a.out.grown AL, NB5, fun t ht => (QZa.out t ht).grown AL⟩
              clear HS3a AL NB NB5 QZa
              go_wp2_with fail
              clear n0 n1 n2 n3 n4
              generalize wa.alloc _ = wb at *
              generalize wa.heap.size = g4 at *
              go_loopw [96] (fun i wr => ∃ t : Nat, t ≤ 5 ∧ i = .int .i64 t ∧ Hd (Zs w1.heap.size (ga + 1) w8 wr ga #[.int .i64 x0, .int .i64 x1, .int .i64 x2, .int .i64 x3, .slice eL nl eC, .slice (some ⟨gS, 0, none⟩) mm fC] eL nl (some ⟨gS, 0, none⟩) mm V ∧ Blk wr g4 24 #[.slice q0a q0n q0c, .slice q1a q1n q1c, .slice q2a q2n q2c, .slice q3a q3n q3c, .slice q4a q4n q4c] ∧ ∀ t (h : t < 5), LsZ w1.heap.size (ga + 1) wr (([.slice q0a q0n q0c, .slice q1a q1n q1c, .slice q2a q2n q2c, .slice q3a q3n q3c, .slice q4a q4n q4c] : List Value)[t]'h))) (fun i _ => 5 - (intOf i).toNat)
              case atStart => exact ⟨0, Nat.zero_le _, rfl, HS4⟩
              case round =>
                obtain ⟨t, ht, rfl, hS5⟩ := hrel
                clear HS4
                by_cases hlt3 : t < 5
                · obtain ⟨la, ln, lc, le, ln9, -⟩ := hS5.out.2.2 t hlt3
                  have c5 : wr.cell? ⟨g4, t, none⟩ = some (.slice la ln lc) := by
                    rw [hS5.out.2.1.cell, ← le]
                    exact list5 _ _ _ _ _ t hlt3
                  have HLE : Hd (∀ h : t < 5, ([.slice q0a q0n q0c, .slice q1a q1n q1c, .slice q2a q2n q2c, .slice q3a q3n q3c, .slice q4a q4n q4c] : List Value)[t]'h = .slice la ln lc) := ⟨fun _ => le⟩
                  have HT : Hd (t < 5) := ⟨hlt3⟩
                  obtain ⟨wq3, rfl⟩ : ∃ wq : World, wq = wr := ⟨_, rfl⟩
                  clear le
                  go_wp2_with fail
                  clear c5
                  go_loopw [14] (fun i wr => ∃ z : Nat, z ≤ ln ∧ i = .int .i64 z ∧ Hd (Zs w1.heap.size (ga + 1) w8 wr ga #[.int .i64 x0, .int .i64 x1, .int .i64 x2, .int .i64 x3, .slice eL nl eC, .slice (some ⟨gS, 0, none⟩) mm fC] eL nl (some ⟨gS, 0, none⟩) mm V ∧ Blk wr g4 24 #[.slice q0a q0n q0c, .slice q1a q1n q1c, .slice q2a q2n q2c, .slice q3a q3n q3c, .slice q4a q4n q4c] ∧ ∀ t (h : t < 5), LsZ w1.heap.size (ga + 1) wr (([.slice q0a q0n q0c, .slice q1a q1n q1c, .slice q2a q2n q2c, .slice q3a q3n q3c, .slice q4a q4n q4c] : List Value)[t]'h))) (fun i _ => ln - (intOf i).toNat)
                  case atStart => exact ⟨0, Nat.zero_le _, rfl, hS5⟩
                  case round =>
                    obtain ⟨z, hz, rfl, hS6⟩ := hrel
                    clear hS5
                    by_cases hlt4 : z < ln
                    · obtain ⟨la', ln', lc', le', -, lrow⟩ := hS6.out.2.2 t HT.out
                      rw [HLE.out HT.out] at le'
                      injection le' with q1 q2 q3
                      subst q1 q2 q3
                      obtain ⟨b, off, rfl, hBb, hRm⟩ := lrow (by omega)
                      obtain ⟨⟨y, hy⟩, hf⟩ := hRm.cell (i := off + z) (by omega)
                      have HZ : Hd (z < ln) := ⟨hlt4⟩
                      obtain ⟨cur9, hb9, -⟩ := id hRm
                      have NX : Hd _ := ⟨And.intro (hS6.out.1.text (i := off + z) hRm hBb (.string ⟨#[115, 112, 111, 105, 108, 116]⟩)) (And.intro (hS6.out.2.1.other (p := ⟨b, off + z, none⟩) (fun e => hb9.ne hS6.out.2.1 (by decide) e.symm) (.string ⟨#[115, 112, 111, 105, 108, 116]⟩)) (fun t ht => (hS6.out.2.2 t ht).any (g := b) (i := off + z) (.string ⟨#[115, 112, 111, 105, 108, 116]⟩)))⟩
                      clear hRm lrow hS6 hb9
                      go_wp2_with fail
                      go_roundw
                      case rel => exact ⟨z + 1, HZ.out, by go_num, NX⟩
                      case measure => have := HZ.out; simp [intOf]; omega
                    · obtain rfl : z = ln := by omega
                      go_wp2_with fail
                      go_roundw
                      case rel => exact ⟨t + 1, HT.out, by go_num, hS6⟩
                      case measure => have := HT.out; simp [intOf]; omega
                · obtain rfl : t = 5 := by omega
                  have e5 := hS5.out.1.box.cellv (v := .slice (some ⟨gS, 0, none⟩) mm fC) 5 rfl
                  have y4 := Y4.out wr hS5.out.1.z
                  obtain ⟨a9, n9', c9, e9, -, hRZ⟩ := hS5.out.1.z.rls k HK.out.2
                  rw [HEV.out] at e9
                  injection e9 with e9a e9b e9c
                  subst e9a e9b e9c
                  have hplt := HP.out
                  obtain ⟨g3', cur3, e3, hB3, hg3, hs3, -⟩ := hRZ (by omega)
                  injection e3 with e3
                  injection e3 with e3
                  subst e3
                  have hRm : Rm wr g3 51 (rn * 5) := ⟨cur3, hg3, hs3⟩
                  obtain ⟨⟨y0, z0⟩, f0⟩ := hRm.cell (i := p * 5) (by omega)
                  obtain ⟨⟨y1, z1⟩, f1⟩ := hRm.cell (i := p * 5 + 1) (by omega)
                  obtain ⟨⟨y2, z2⟩, f2⟩ := hRm.cell (i := p * 5 + 2) (by omega)
                  obtain ⟨⟨y3, z3⟩, f3⟩ := hRm.cell (i := p * 5 + 3) (by omega)
                  obtain ⟨⟨y5, z4⟩, f4⟩ := hRm.cell (i := p * 5 + 4) (by omega)
                  have NX : Hd _ := ⟨hS5.out.1.wipe (i := p * 5) hg3 hB3⟩
                  clear hRm hS5 hRZ hg3 hs3
                  go_wp2_with fail
                  go_roundw
                  case rel => exact ⟨p + 1, HP.out, by go_num, NX⟩
                  case measure => have := HP.out; simp [intOf]; omega
            · obtain rfl : p = rn := by omega
              go_wp2_with fail
              go_roundw
              case rel => exact ⟨k + 1, HK.out.1, by go_num, hS3⟩
              case measure => have := HK.out.1; simp [intOf]; omega
        · obtain rfl : k = mm := by omega
          have KP := hS2.out.kep
          have BW : Below w.heap.size w wr := HBL.out.trans (KP.below HBL.out.size (fun t ht => by have := HSZ.out.2.1; omega))
          have T9 : Tw gb gw #[.int .i64 x0, .int .i64 x1, .int .i64 x2, .int .i64 x3, .slice bL nb bC, .slice bS mb cC] #[.int .i64 x0, .int .i64 x1, .int .i64 x2, .int .i64 x3, .slice gL nw gC, .slice gS' mw hC] wr := ⟨HTW.out.t.b2.kept KP (fun e => by have := HGB.out; omega), HTW.out.e.kept KP (fun e => by have := HGB.out; omega)⟩
          have RB := HBK.out wr KP
          have RW := HWK.out wr KP
          have P9 := HPC.out wr BW
          clear hS2 KP HBK HWK HTW
          go_wp2_with fail
          go_at_call 9
          refine P9.mono ?_
          intro e w9 h9
          have b9 := h9.bel
          obtain ⟨kL, nc, kC, kS, mc, lC, rfl, hc⟩ := pr_shape h9
          rw [HXS.out.1, HXS.out.2.1, HXS.out.2.2.1, HXS.out.2.2.2] at hc ⊢
          have AL9 := alloc_below w9 (.cells #[.int .i64 x0, .int .i64 x1, .int .i64 x2, .int .i64 x3, .slice kL nc kC, .slice kS mc lC] 30)
          have T10 : Th gb gw w9.heap.size #[.int .i64 x0, .int .i64 x1, .int .i64 x2, .int .i64 x3, .slice bL nb bC, .slice bS mb cC] #[.int .i64 x0, .int .i64 x1, .int .i64 x2, .int .i64 x3, .slice gL nw gC, .slice gS' mw hC] #[.int .i64 x0, .int .i64 x1, .int .i64 x2, .int .i64 x3, .slice kL nc kC, .slice kS mc lC] (w9.alloc (.cells #[.int .i64 x0, .int .i64 x1, .int .i64 x2, .int .i64 x3, .slice kL nc kC, .slice kS mc lC] 30)) := ⟨(T9.kept (Kept.of_below b9 (fun _ => False)) id).kept (Kept.of_below AL9 (fun _ => False)) id, Blk.new w9 30 _⟩
          have B9 : Below wr.heap.size wr (w9.alloc (.cells #[.int .i64 x0, .int .i64 x1, .int .i64 x2, .int .i64 x3, .slice kL nc kC, .slice kS mc lC] 30)) := b9.trans (AL9.mono b9.size)
          have BWX : Hd (Below w.heap.size w (w9.alloc (.cells #[.int .i64 x0, .int .i64 x1, .int .i64 x2, .int .i64 x3, .slice kL nc kC, .slice kS mc lC] 30))) := ⟨BW.trans (B9.mono BW.size)⟩
          have RB9 : Hd _ := ⟨RB.carry B9⟩
          have RW9 : Hd _ := ⟨RW.carry B9⟩
          have RC9 : Hd _ := ⟨(cfb_read hc hfit).carry AL9⟩
          clear h9 b9 hc AL9 T9 B9 RB RW P9 BW
          simp only
          go_upto_region 31 with fail
          generalize w9.alloc _ = w11 at *
          generalize w9.heap.size = gq at *
          have DR : Below w11.heap.size w11 w11.drew := ⟨rfl, rfl, rfl, Nat.le_refl _, fun _ _ => rfl⟩
          have A0 := T10.kept (Kept.of_below DR (fun _ => False)) id
          refine AnyG.start (T := Th gb gw gq #[.int .i64 x0, .int .i64 x1, .int .i64 x2, .int .i64 x3, .slice bL nb bC, .slice bS mb cC] #[.int .i64 x0, .int .i64 x1, .int .i64 x2, .int .i64 x3, .slice gL nw gC, .slice gS' mw hC] #[.int .i64 x0, .int .i64 x1, .int .i64 x2, .int .i64 x3, .slice kL nc kC, .slice kS mc lC]) (U := fun _ => True) (j0 := 100) (by kernel_rfl) ?_
          have B0 : Below w11.heap.size w11 w11.drew := DR
          clear DR T10
          generalize w11.drew = w0 at *
          refine AnyG.takeAt 0 124 (v := ?_) rfl rfl (by kernel_rfl) (by kernel_rfl) (by kernel_rfl) (by decide) (fun _ _ _ h => h) ⟨A0, fun _ => trivial⟩ (by rfl) ?_ ?_
          rotate_left
          · intro w hSw
            have s10 := hSw.t.b1.cellv (v := .int .i64 x0) 0 rfl
            have s11 := hSw.t.b1.cellv (v := .int .i64 x1) 1 rfl
            have s12 := hSw.t.b1.cellv (v := .int .i64 x2) 2 rfl
            have s13 := hSw.t.b1.cellv (v := .int .i64 x3) 3 rfl
            have s14 := hSw.t.b1.cellv (v := .slice bL nb bC) 4 rfl
            have s15 := hSw.t.b1.cellv (v := .slice bS mb cC) 5 rfl
            go_simp
            rfl
          simp only [List.setIfInBounds_toArray, List.set_cons_zero, List.set_cons_succ]
          refine AnyG.takeAt 1 125 (v := ?_) rfl rfl (by kernel_rfl) (by kernel_rfl) (by kernel_rfl) (by decide) (fun _ _ _ h => h) ⟨A0, fun _ => trivial⟩ (by rfl) ?_ ?_
          rotate_left
          · intro w hSw
            have s10 := hSw.t.b2.cellv (v := .int .i64 x0) 0 rfl
            have s11 := hSw.t.b2.cellv (v := .int .i64 x1) 1 rfl
            have s12 := hSw.t.b2.cellv (v := .int .i64 x2) 2 rfl
            have s13 := hSw.t.b2.cellv (v := .int .i64 x3) 3 rfl
            have s14 := hSw.t.b2.cellv (v := .slice gL nw gC) 4 rfl
            have s15 := hSw.t.b2.cellv (v := .slice gS' mw hC) 5 rfl
            go_simp
            rfl
          simp only [List.setIfInBounds_toArray, List.set_cons_zero, List.set_cons_succ]
          refine AnyG.ready (rs := [2]) (by kernel_rfl) (by simp) ?_
          refine AllG.cons rfl (fun K hK => ?_) AllG.nil
          go_simp
          refine (same_cfr (RB9.out.carry B0) (RW9.out.carry B0)).mono ?_
          rintro e wk1 ⟨rfl, b1⟩
          have Ak1 := A0.kept (Kept.of_below b1 (fun _ => False)) id
          have Bk1 : Below w11.heap.size w11 wk1 := B0.trans (b1.mono B0.size)
          refine hK.out _ _ ⟨Ak1, fun _ => trivial⟩ ?_
          clear hK K b1 A0 B0
          refine AnyG.takeAt 3 127 (v := ?_) rfl rfl (by kernel_rfl) (by kernel_rfl) (by kernel_rfl) (by decide) (fun _ _ _ h => h) ⟨Ak1, fun _ => trivial⟩ (by rfl) ?_ ?_
          rotate_left
          · intro w hSw
            go_simp
            rfl
          simp only [List.setIfInBounds_toArray, List.set_cons_zero, List.set_cons_succ]
          refine AnyG.takeAt 4 128 (v := ?_) rfl rfl (by kernel_rfl) (by kernel_rfl) (by kernel_rfl) (by decide) (fun _ _ _ h => h) ⟨Ak1, fun _ => trivial⟩ (by rfl) ?_ ?_
          rotate_left
          · intro w hSw
            go_simp
            rfl
          simp only [List.setIfInBounds_toArray, List.set_cons_zero, List.set_cons_succ]
          refine AnyG.takeAt 5 129 (v := ?_) rfl rfl (by kernel_rfl) (by kernel_rfl) (by kernel_rfl) (by decide) (fun _ _ _ h => h) ⟨Ak1, fun _ => trivial⟩ (by rfl) ?_ ?_
          rotate_left
          · intro w hSw
            go_simp
            rfl
          simp only [List.setIfInBounds_toArray, List.set_cons_zero, List.set_cons_succ]
          refine AnyG.takeAt 6 130 (v := ?_) rfl rfl (by kernel_rfl) (by kernel_rfl) (by kernel_rfl) (by decide) (fun _ _ _ h => h) ⟨Ak1, fun _ => trivial⟩ (by rfl) ?_ ?_
          rotate_left
          · intro w hSw
            go_simp
            rfl
          simp only [List.setIfInBounds_toArray, List.set_cons_zero, List.set_cons_succ]
          refine AnyG.takeAt 7 131 (v := ?_) rfl rfl (by kernel_rfl) (by kernel_rfl) (by kernel_rfl) (by decide) (fun _ _ _ h => h) ⟨Ak1, fun _ => trivial⟩ (by rfl) ?_ ?_
          rotate_left
          · intro w hSw
            go_simp
            rfl
          simp only [List.setIfInBounds_toArray, List.set_cons_zero, List.set_cons_succ]
          refine AnyG.takeAt 8 132 (v := ?_) rfl rfl (by kernel_rfl) (by kernel_rfl) (by kernel_rfl) (by decide) (fun _ _ _ h => h) ⟨Ak1, fun _ => trivial⟩ (by rfl) ?_ ?_
          rotate_left
          · intro w hSw
            go_simp
            rfl
          simp only [List.setIfInBounds_toArray, List.set_cons_zero, List.set_cons_succ]
          refine AnyG.takeAt 9 133 (v := ?_) rfl rfl (by kernel_rfl) (by kernel_rfl) (by kernel_rfl) (by decide) (fun _ _ _ h => h) ⟨Ak1, fun _ => trivial⟩ (by rfl) ?_ ?_
          rotate_left
          · intro w hSw
            go_simp
            rfl
          simp only [List.setIfInBounds_toArray, List.set_cons_zero, List.set_cons_succ]
          refine AnyG.takeAt 10 134 (v := ?_) rfl rfl (by kernel_rfl) (by kernel_rfl) (by kernel_rfl) (by decide) (fun _ _ _ h => h) ⟨Ak1, fun _ => trivial⟩ (by rfl) ?_ ?_
          rotate_left
          · intro w hSw
            go_simp
            rfl
          simp only [List.setIfInBounds_toArray, List.set_cons_zero, List.set_cons_succ]
          refine AnyG.takeAt 11 135 (v := ?_) rfl rfl (by kernel_rfl) (by kernel_rfl) (by kernel_rfl) (by decide) (fun _ _ _ h => h) ⟨Ak1, fun _ => trivial⟩ (by rfl) ?_ ?_
          rotate_left
          · intro w hSw
            have s10 := hSw.e.cellv (v := .int .i64 x0) 0 rfl
            have s11 := hSw.e.cellv (v := .int .i64 x1) 1 rfl
            have s12 := hSw.e.cellv (v := .int .i64 x2) 2 rfl
            have s13 := hSw.e.cellv (v := .int .i64 x3) 3 rfl
            have s14 := hSw.e.cellv (v := .slice kL nc kC) 4 rfl
            have s15 := hSw.e.cellv (v := .slice kS mc lC) 5 rfl
            go_simp
            rfl
          simp only [List.setIfInBounds_toArray, List.set_cons_zero, List.set_cons_succ]
          refine AnyG.takeAt 12 136 (v := ?_) rfl rfl (by kernel_rfl) (by kernel_rfl) (by kernel_rfl) (by decide) (fun _ _ _ h => h) ⟨Ak1, fun _ => trivial⟩ (by rfl) ?_ ?_
          rotate_left
          · intro w hSw
            have s10 := hSw.t.b2.cellv (v := .int .i64 x0) 0 rfl
            have s11 := hSw.t.b2.cellv (v := .int .i64 x1) 1 rfl
            have s12 := hSw.t.b2.cellv (v := .int .i64 x2) 2 rfl
            have s13 := hSw.t.b2.cellv (v := .int .i64 x3) 3 rfl
            have s14 := hSw.t.b2.cellv (v := .slice gL nw gC) 4 rfl
            have s15 := hSw.t.b2.cellv (v := .slice gS' mw hC) 5 rfl
            go_simp
            rfl
          simp only [List.setIfInBounds_toArray, List.set_cons_zero, List.set_cons_succ]
          refine AnyG.ready (rs := [13]) (by kernel_rfl) (by simp) ?_
          refine AllG.cons rfl (fun K hK => ?_) AllG.nil
          go_simp
          refine (same_cfr (RC9.out.carry Bk1) (RW9.out.carry Bk1)).mono ?_
          rintro e wk2 ⟨rfl, b2⟩
          have Ak2 := Ak1.kept (Kept.of_below b2 (fun _ => False)) id
          have Bk2 : Below w11.heap.size w11 wk2 := Bk1.trans (b2.mono Bk1.size)
          refine hK.out _ _ ⟨Ak2, fun _ => trivial⟩ ?_
          clear hK K b2 Ak1 Bk1
          refine AnyG.takeAt 14 138 (v := ?_) rfl rfl (by kernel_rfl) (by kernel_rfl) (by kernel_rfl) (by decide) (fun _ _ _ h => h) ⟨Ak2, fun _ => trivial⟩ (by rfl) ?_ ?_
          rotate_left
          · intro w hSw
            go_simp
            rfl
          simp only [List.setIfInBounds_toArray, List.set_cons_zero, List.set_cons_succ]
          refine AnyG.takeAt 15 2 (v := ?_) rfl rfl (by kernel_rfl) (by kernel_rfl) (by kernel_rfl) (by decide) (fun _ _ _ h => h) ⟨Ak2, fun _ => trivial⟩ (by rfl) ?_ ?_
          rotate_left
          · intro w hSw
            go_simp
            rfl
          simp only [List.setIfInBounds_toArray, List.set_cons_zero, List.set_cons_succ]
          refine AnyG.done (by kernel_rfl) ?_ _
          go_wp2_with fail
          go_ret
          exact ⟨rfl, BWX.out.trans (Bk2.mono BWX.out.size)⟩
end Go.Proofs.YtaodckojinbdfaaDoor.Cp
