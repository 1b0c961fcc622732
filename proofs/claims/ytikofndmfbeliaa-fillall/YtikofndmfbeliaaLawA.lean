/-
  'FillAll' answers true. Condition: the configuration lies in memory.
-/
import Derived.Test.YtikofndmfbeliaaRfF
import Derived.Test.YtikofndmfbeliaaLawK
namespace Go.Proofs.Ytikofndmfbeliaa
open Go.RowKit

set_option maxRecDepth 20000 in
set_option maxHeartbeats 16000000 in
theorem all_ok (v : Value) (C : Cf) (w : World) (h : CfR w v C) : Calls Try.prog 3 #[v] w fun e w' => e = .returned (.bool true) ∧ Below w.heap.size w w' := by
  have HF : Hd (Fits C) := ⟨h.fits⟩
  have HV : Hd (∀ W, Below w.heap.size w W → CfR W v C) := ⟨fun W b => h.carry b⟩
  obtain ⟨aL, cL, aS, cS, -, e0, -⟩ := h.ex
  subst e0
  clear h
  obtain ⟨x0, x1, x2, x3, L, S⟩ := C
  simp only at HV ⊢
  obtain ⟨n, hn⟩ : ∃ n, n = L.length := ⟨_, rfl⟩
  obtain ⟨m, hm⟩ : ∃ m, m = S.length := ⟨_, rfl⟩
  have HN : Hd (n = L.length ∧ m = S.length) := ⟨hn, hm⟩
  rw [← hn, ← hm] at HV ⊢
  clear hn hm
  have AL := alloc_below w (.cells #[.int .i64 x0, .int .i64 x1, .int .i64 x2, .int .i64 x3, .slice aL n cL, .slice aS m cS] 25)
  have NB := Blk.new w 25 #[.int .i64 x0, .int .i64 x1, .int .i64 x2, .int .i64 x3, .slice aL n cL, .slice aS m cS]
  have AW := awake_ok (w.alloc (.cells #[.int .i64 x0, .int .i64 x1, .int .i64 x2, .int .i64 x3, .slice aL n cL, .slice aS m cS] 25))
  go_enter Try.func3, Try.ntmps3
  go_wp2_with fail
  go_at_call 6
  refine AW.mono ?_
  rintro e w2 ⟨rfl, b2⟩
  have B2 : Below w.heap.size w w2 := AL.trans (b2.mono AL.size)
  have N2 := NB.kept (Kept.of_below b2 (fun _ => False)) id
  clear AW AL NB b2
  have SM := small_any _ _ w2 (HV.out w2 B2)
  obtain ⟨gc, hgc⟩ : ∃ gc, gc = w.heap.size := ⟨_, rfl⟩
  rw [← hgc] at N2 ⊢
  clear hgc
  have c0 := N2.cellv (v := .int .i64 x0) 0 rfl
  have c1 := N2.cellv (v := .int .i64 x1) 1 rfl
  have c2 := N2.cellv (v := .int .i64 x2) 2 rfl
  have c3 := N2.cellv (v := .int .i64 x3) 3 rfl
  have c4 := N2.cellv (v := .slice aL n cL) 4 rfl
  have c5 := N2.cellv (v := .slice aS m cS) 5 rfl
  go_wp2_with fail
  go_at_call 7
  refine SM.mono ?_
  rintro e w3 ⟨⟨b, rfl, hbnd⟩, b3⟩
  have B3 : Below w.heap.size w w3 := B2.trans (b3.mono B2.size)
  have N3 := N2.kept (Kept.of_below b3 (fun _ => False)) id
  have HB : Hd (b = true → Bnd 80 ⟨x0, x1, x2, x3, L, S⟩) := ⟨hbnd⟩
  clear SM b3 B2 c0 c1 c2 c3 c4 c5 hbnd N2
  cases b with
  | false =>
    go_wp2_with fail
    go_ret
    exact ⟨rfl, B3⟩
  | true =>
    have hbnd := HB.out rfl
    have CP := copy_ok _ _ w3 (HV.out w3 B3) (hbnd.mono (by decide))
    have c0 := N3.cellv (v := .int .i64 x0) 0 rfl
    have c1 := N3.cellv (v := .int .i64 x1) 1 rfl
    have c2 := N3.cellv (v := .int .i64 x2) 2 rfl
    have c3 := N3.cellv (v := .int .i64 x3) 3 rfl
    have c4 := N3.cellv (v := .slice aL n cL) 4 rfl
    have c5 := N3.cellv (v := .slice aS m cS) 5 rfl
    go_wp2_with fail
    go_at_call 8
    refine CP.mono ?_
    rintro e w4 ⟨⟨vm, rfl, hW⟩, b4⟩
    have B4 : Below w.heap.size w w4 := B3.trans (b4.mono B3.size)
    have N4 := N3.kept (Kept.of_below b4 (fun _ => False)) id
    have MR := hW.read HF.out
    obtain ⟨bL, dL, bS, dS, -, e0, -⟩ := MR.ex
    simp only at e0
    rw [← HN.out.1, ← HN.out.2] at e0
    subst e0
    have AM := alloc_below w4 (.cells #[.int .i64 x0, .int .i64 x1, .int .i64 x2, .int .i64 x3, .slice bL n dL, .slice bS m dS] 25)
    have FL := fill_ok _ _ (w4.alloc (.cells #[.int .i64 x0, .int .i64 x1, .int .i64 x2, .int .i64 x3, .slice bL n dL, .slice bS m dS] 25)) (MR.carry AM) (hbnd.mono (by decide))
    have FI := fillC_fits HF.out hbnd (by decide)
    have RF : Hd (∀ W, Below w.heap.size w W → Calls Try.prog 11 #[.agg #[.int .i64 x0, .int .i64 x1, .int .i64 x2, .int .i64 x3, .slice aL n cL, .slice aS m cS]] W fun e w' => FCf W (fillC ⟨x0, x1, x2, x3, L, S⟩) e w') := ⟨fun W b => refFill_ok _ _ W (HV.out W b) (hbnd.mono (by decide))⟩
    have TT : Tw gc w4.heap.size #[.int .i64 x0, .int .i64 x1, .int .i64 x2, .int .i64 x3, .slice aL n cL, .slice aS m cS] #[.int .i64 x0, .int .i64 x1, .int .i64 x2, .int .i64 x3, .slice bL n dL, .slice bS m dS] (w4.alloc (.cells #[.int .i64 x0, .int .i64 x1, .int .i64 x2, .int .i64 x3, .slice bL n dL, .slice bS m dS] 25)) := ⟨N4.alloc _, Blk.new w4 25 _⟩
    have BB : Below w.heap.size w (w4.alloc (.cells #[.int .i64 x0, .int .i64 x1, .int .i64 x2, .int .i64 x3, .slice bL n dL, .slice bS m dS] 25)) := B4.trans (AM.mono B4.size)
    have HMR : Hd (CfR (w4.alloc (.cells #[.int .i64 x0, .int .i64 x1, .int .i64 x2, .int .i64 x3, .slice bL n dL, .slice bS m dS] 25)) (.agg #[.int .i64 x0, .int .i64 x1, .int .i64 x2, .int .i64 x3, .slice bL n dL, .slice bS m dS]) ⟨x0, x1, x2, x3, L, S⟩) := ⟨MR.carry AM⟩
    clear CP hW b4 B3 N3 c0 c1 c2 c3 c4 c5 MR AM N4 B4 hbnd HB
    simp only
    go_upto_region 6 with fail
    generalize w4.alloc _ = w5 at *
    generalize w4.heap.size = gm at *
    have c0 := TT.b2.cellv (v := .int .i64 x0) 0 rfl
    have c1 := TT.b2.cellv (v := .int .i64 x1) 1 rfl
    have c2 := TT.b2.cellv (v := .int .i64 x2) 2 rfl
    have c3 := TT.b2.cellv (v := .int .i64 x3) 3 rfl
    have c4 := TT.b2.cellv (v := .slice bL n dL) 4 rfl
    have c5 := TT.b2.cellv (v := .slice bS m dS) 5 rfl
    go_wp2_with fail
    go_at_call 9
    refine FL.mono ?_
    rintro e w6 ⟨⟨vd, rfl, hW⟩, b6⟩
    have DR := hW.read FI
    obtain ⟨eL, fL, eS, fS, -, e0, -⟩ := DR.ex
    subst e0
    have B6 : Below w.heap.size w w6 := BB.trans (b6.mono BB.size)
    have T6 := TT.kept (Kept.of_below b6 (fun _ => False)) id
    have HDR : Hd (∀ W, Below w6.heap.size w6 W → CfR W _ (fillC ⟨x0, x1, x2, x3, L, S⟩)) := ⟨fun W b => DR.carry b⟩
    have HMR2 : Hd (∀ W, Below w6.heap.size w6 W → CfR W _ ⟨x0, x1, x2, x3, L, S⟩) := ⟨fun W b => (HMR.out.carry b6).carry b⟩
    have HFI : Hd (Fits (fillC ⟨x0, x1, x2, x3, L, S⟩)) := ⟨FI⟩
    clear FL hW b6 DR HMR TT BB c0 c1 c2 c3 c4 c5 FI
    generalize (fillC ⟨x0, x1, x2, x3, L, S⟩).total = D0 at *
    generalize (fillC ⟨x0, x1, x2, x3, L, S⟩).period = D1 at *
    generalize (fillC ⟨x0, x1, x2, x3, L, S⟩).perSeat = D2 at *
    generalize (fillC ⟨x0, x1, x2, x3, L, S⟩).most = D3 at *
    generalize (fillC ⟨x0, x1, x2, x3, L, S⟩).levels.length = nn at *
    generalize (fillC ⟨x0, x1, x2, x3, L, S⟩).schemas.length = mm at *
    generalize fillC ⟨x0, x1, x2, x3, L, S⟩ = FD at *
    have AE := alloc_below w6 (.cells #[.int .i64 D0, .int .i64 D1, .int .i64 D2, .int .i64 D3, .slice eL nn fL, .slice eS mm fS] 25)
    have A7 : Th gc gm w6.heap.size #[.int .i64 x0, .int .i64 x1, .int .i64 x2, .int .i64 x3, .slice aL n cL, .slice aS m cS] #[.int .i64 x0, .int .i64 x1, .int .i64 x2, .int .i64 x3, .slice bL n dL, .slice bS m dS] #[.int .i64 D0, .int .i64 D1, .int .i64 D2, .int .i64 D3, .slice eL nn fL, .slice eS mm fS] (w6.alloc (.cells #[.int .i64 D0, .int .i64 D1, .int .i64 D2, .int .i64 D3, .slice eL nn fL, .slice eS mm fS] 25)) := ⟨T6.kept (Kept.of_below AE (fun _ => False)) id, Blk.new w6 25 _⟩
    go_upto_region 7 with fail
    generalize w6.alloc _ = w7 at *
    obtain ⟨gd, hgd⟩ : ∃ gd, gd = w6.heap.size := ⟨_, rfl⟩
    rw [← hgd] at A7 ⊢
    have DR : Below w7.heap.size w7 w7.drew := ⟨rfl, rfl, rfl, Nat.le_refl _, fun _ _ => rfl⟩
    have B0 : Below w6.heap.size w6 w7.drew := AE.trans (DR.mono AE.size)
    have A0 := A7.kept (Kept.of_below DR (fun _ => False)) id
    refine AnyG.start (T := Th gc gm gd #[.int .i64 x0, .int .i64 x1, .int .i64 x2, .int .i64 x3, .slice aL n cL, .slice aS m cS] #[.int .i64 x0, .int .i64 x1, .int .i64 x2, .int .i64 x3, .slice bL n dL, .slice bS m dS] #[.int .i64 D0, .int .i64 D1, .int .i64 D2, .int .i64 D3, .slice eL nn fL, .slice eS mm fS]) (U := fun _ => True) (j0 := 100) (by kernel_rfl) ?_
    clear DR AE A7 hgd T6
    generalize w7.drew = w0 at *
    refine AnyG.takeAt 0 14 (v := ?_) rfl rfl (by kernel_rfl) (by kernel_rfl) (by kernel_rfl) (by decide) (fun _ _ _ h => h) ⟨A0, fun _ => trivial⟩ (by rfl) ?_ ?_
    rotate_left
    · intro w hSw
      have s10 := hSw.e.cellv (v := .int .i64 D0) 0 rfl
      have s11 := hSw.e.cellv (v := .int .i64 D1) 1 rfl
      have s12 := hSw.e.cellv (v := .int .i64 D2) 2 rfl
      have s13 := hSw.e.cellv (v := .int .i64 D3) 3 rfl
      have s14 := hSw.e.cellv (v := .slice eL nn fL) 4 rfl
      have s15 := hSw.e.cellv (v := .slice eS mm fS) 5 rfl
      go_simp
      rfl
    simp only [List.setIfInBounds_toArray, List.set_cons_zero, List.set_cons_succ]
    refine AnyG.takeAt 1 15 (v := ?_) rfl rfl (by kernel_rfl) (by kernel_rfl) (by kernel_rfl) (by decide) (fun _ _ _ h => h) ⟨A0, fun _ => trivial⟩ (by rfl) ?_ ?_
    rotate_left
    · intro w hSw
      have s10 := hSw.t.b1.cellv (v := .int .i64 x0) 0 rfl
      have s11 := hSw.t.b1.cellv (v := .int .i64 x1) 1 rfl
      have s12 := hSw.t.b1.cellv (v := .int .i64 x2) 2 rfl
      have s13 := hSw.t.b1.cellv (v := .int .i64 x3) 3 rfl
      have s14 := hSw.t.b1.cellv (v := .slice aL n cL) 4 rfl
      have s15 := hSw.t.b1.cellv (v := .slice aS m cS) 5 rfl
      go_simp
      rfl
    simp only [List.setIfInBounds_toArray, List.set_cons_zero, List.set_cons_succ]
    refine AnyG.ready (rs := [2]) (by kernel_rfl) (by simp) ?_
    refine AllG.cons rfl (fun K hK => ?_) AllG.nil
    go_simp
    refine (RF.out w0 (B6.trans (B0.mono B6.size))).mono ?_
    rintro e wk1 ⟨⟨v2, rfl, h2⟩, b1⟩
    replace h2 := h2.read HFI.out
    have Ak1 := A0.kept (Kept.of_below b1 (fun _ => False)) id
    have Bk1 : Below w6.heap.size w6 wk1 := B0.trans (b1.mono B0.size)
    have SC := same_cfr (HDR.out wk1 Bk1) h2
    refine hK.out _ _ ⟨Ak1, fun _ => trivial⟩ ?_
    clear hK K b1 A0 B0 h2
    refine AnyG.ready (rs := [3]) (by kernel_rfl) (by simp) ?_
    refine AllG.cons rfl (fun K hK => ?_) AllG.nil
    go_simp
    refine (SC).mono ?_
    rintro e wk2 ⟨rfl, b2⟩
    have Ak2 := Ak1.kept (Kept.of_below b2 (fun _ => False)) id
    have Bk2 : Below w6.heap.size w6 wk2 := Bk1.trans (b2.mono Bk1.size)
    refine hK.out _ _ ⟨Ak2, fun _ => trivial⟩ ?_
    clear hK K b2 Ak1 Bk1
    refine AnyG.takeAt 4 18 (v := ?_) rfl rfl (by kernel_rfl) (by kernel_rfl) (by kernel_rfl) (by decide) (fun _ _ _ h => h) ⟨Ak2, fun _ => trivial⟩ (by rfl) ?_ ?_
    rotate_left
    · intro w hSw
      go_simp
      rfl
    simp only [List.setIfInBounds_toArray, List.set_cons_zero, List.set_cons_succ]
    refine AnyG.takeAt 5 19 (v := ?_) rfl rfl (by kernel_rfl) (by kernel_rfl) (by kernel_rfl) (by decide) (fun _ _ _ h => h) ⟨Ak2, fun _ => trivial⟩ (by rfl) ?_ ?_
    rotate_left
    · intro w hSw
      have s10 := hSw.t.b2.cellv (v := .int .i64 x0) 0 rfl
      have s11 := hSw.t.b2.cellv (v := .int .i64 x1) 1 rfl
      have s12 := hSw.t.b2.cellv (v := .int .i64 x2) 2 rfl
      have s13 := hSw.t.b2.cellv (v := .int .i64 x3) 3 rfl
      have s14 := hSw.t.b2.cellv (v := .slice bL n dL) 4 rfl
      have s15 := hSw.t.b2.cellv (v := .slice bS m dS) 5 rfl
      go_simp
      rfl
    simp only [List.setIfInBounds_toArray, List.set_cons_zero, List.set_cons_succ]
    refine AnyG.takeAt 6 20 (v := ?_) rfl rfl (by kernel_rfl) (by kernel_rfl) (by kernel_rfl) (by decide) (fun _ _ _ h => h) ⟨Ak2, fun _ => trivial⟩ (by rfl) ?_ ?_
    rotate_left
    · intro w hSw
      have s10 := hSw.t.b1.cellv (v := .int .i64 x0) 0 rfl
      have s11 := hSw.t.b1.cellv (v := .int .i64 x1) 1 rfl
      have s12 := hSw.t.b1.cellv (v := .int .i64 x2) 2 rfl
      have s13 := hSw.t.b1.cellv (v := .int .i64 x3) 3 rfl
      have s14 := hSw.t.b1.cellv (v := .slice aL n cL) 4 rfl
      have s15 := hSw.t.b1.cellv (v := .slice aS m cS) 5 rfl
      go_simp
      rfl
    simp only [List.setIfInBounds_toArray, List.set_cons_zero, List.set_cons_succ]
    refine AnyG.ready (rs := [7]) (by kernel_rfl) (by simp) ?_
    refine AllG.cons rfl (fun K hK => ?_) AllG.nil
    go_simp
    refine (same_cfr (HMR2.out wk2 Bk2) (HV.out wk2 (B6.trans (Bk2.mono B6.size)))).mono ?_
    rintro e wk3 ⟨rfl, b3⟩
    have Ak3 := Ak2.kept (Kept.of_below b3 (fun _ => False)) id
    have Bk3 : Below w6.heap.size w6 wk3 := Bk2.trans (b3.mono Bk2.size)
    refine hK.out _ _ ⟨Ak3, fun _ => trivial⟩ ?_
    clear hK K b3 Ak2 Bk2
    refine AnyG.takeAt 8 22 (v := ?_) rfl rfl (by kernel_rfl) (by kernel_rfl) (by kernel_rfl) (by decide) (fun _ _ _ h => h) ⟨Ak3, fun _ => trivial⟩ (by rfl) ?_ ?_
    rotate_left
    · intro w hSw
      go_simp
      rfl
    simp only [List.setIfInBounds_toArray, List.set_cons_zero, List.set_cons_succ]
    refine AnyG.takeAt 9 2 (v := ?_) rfl rfl (by kernel_rfl) (by kernel_rfl) (by kernel_rfl) (by decide) (fun _ _ _ h => h) ⟨Ak3, fun _ => trivial⟩ (by rfl) ?_ ?_
    rotate_left
    · intro w hSw
      go_simp
      rfl
    simp only [List.setIfInBounds_toArray, List.set_cons_zero, List.set_cons_succ]
    refine AnyG.done (by kernel_rfl) ?_ _
    go_wp2_with fail
    go_ret
    exact ⟨rfl, B6.trans (Bk3.mono B6.size)⟩
end Go.Proofs.Ytikofndmfbeliaa
