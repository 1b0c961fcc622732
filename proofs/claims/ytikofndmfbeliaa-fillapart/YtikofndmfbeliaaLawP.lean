/-
  'FillApart' answers true. Condition: the configuration lies in memory.
-/
import Derived.Test.YtikofndmfbeliaaSpA
import Derived.Test.YtikofndmfbeliaaLawK
namespace Go.Proofs.Ytikofndmfbeliaa
open Go.RowKit

theorem qx_at {B : Nat} {w : World} {q : Q5} (h : QX B w q) : ∀ t (ht : t < 5), LsX B w ((q5L q)[t]'ht)
  | 0, _ => h.1
  | 1, _ => h.2.1
  | 2, _ => h.2.2.1
  | 3, _ => h.2.2.2.1
  | 4, _ => h.2.2.2.2
theorem q5_cell {q : Q5} {v0 v1 v2 v3 v4 : Value} (h : q = ⟨v0, v1, v2, v3, v4⟩) : ∀ t (ht : t < 5), (#[v0, v1, v2, v3, v4] : Array Value)[t]? = some ((q5L q)[t]'ht) := by
  subst h
  intro t ht
  match t, ht with
  | 0, _ => rfl
  | 1, _ => rfl
  | 2, _ => rfl
  | 3, _ => rfl
  | 4, _ => rfl
set_option maxRecDepth 20000 in
set_option maxHeartbeats 16000000 in
theorem apart_ok (v : Value) (C : Cf) (w : World) (h : CfR w v C) : Calls Try.prog 5 #[v] w fun e w' => e = .returned (.bool true) ∧ Below w.heap.size w w' := by
  have HF : Hd (Fits C) := ⟨h.fits⟩
  have HV : Hd (∀ W, Below w.heap.size w W → CfR W v C) := ⟨fun W b => h.carry b⟩
  obtain ⟨aL, cL, aS, cS, -, e0, -⟩ := h.ex
  subst e0
  clear h
  obtain ⟨x0, x1, x2, x3, L, S⟩ := C
  simp only at HV ⊢
  obtain ⟨n, hn⟩ : ∃ n, n = L.length := ⟨_, rfl⟩
  obtain ⟨m, hm⟩ : ∃ m, m = S.length := ⟨_, rfl⟩
  have HN : Hd (n = L.length ∧ m = S.length) := ⟨hn, hm⟩
  rw [← hn, ← hm] at HV ⊢
  clear hn hm
  have AL := alloc_below w (.cells #[.int .i64 x0, .int .i64 x1, .int .i64 x2, .int .i64 x3, .slice aL n cL, .slice aS m cS] 25)
  have NB := Blk.new w 25 #[.int .i64 x0, .int .i64 x1, .int .i64 x2, .int .i64 x3, .slice aL n cL, .slice aS m cS]
  have AW := awake_ok (w.alloc (.cells #[.int .i64 x0, .int .i64 x1, .int .i64 x2, .int .i64 x3, .slice aL n cL, .slice aS m cS] 25))
  go_enter Try.func5, Try.ntmps5
  go_wp2_with fail
  go_at_call 6
  refine AW.mono ?_
  rintro e w2 ⟨rfl, b2⟩
  have B2 : Below w.heap.size w w2 := AL.trans (b2.mono AL.size)
  have N2 := NB.kept (Kept.of_below b2 (fun _ => False)) id
  clear AW AL NB b2
  have SM := small_any _ _ w2 (HV.out w2 B2)
  obtain ⟨gc, hgc⟩ : ∃ gc, gc = w.heap.size := ⟨_, rfl⟩
  rw [← hgc] at N2 ⊢
  clear hgc
  have c0 := N2.cellv (v := .int .i64 x0) 0 rfl
  have c1 := N2.cellv (v := .int .i64 x1) 1 rfl
  have c2 := N2.cellv (v := .int .i64 x2) 2 rfl
  have c3 := N2.cellv (v := .int .i64 x3) 3 rfl
  have c4 := N2.cellv (v := .slice aL n cL) 4 rfl
  have c5 := N2.cellv (v := .slice aS m cS) 5 rfl
  go_wp2_with fail
  go_at_call 7
  refine SM.mono ?_
  rintro e w3 ⟨⟨b, rfl, hbnd⟩, b3⟩
  have B3 : Below w.heap.size w w3 := B2.trans (b3.mono B2.size)
  have N3 := N2.kept (Kept.of_below b3 (fun _ => False)) id
  have HB : Hd (b = true → Bnd 80 ⟨x0, x1, x2, x3, L, S⟩) := ⟨hbnd⟩
  clear SM b3 B2 c0 c1 c2 c3 c4 c5 hbnd N2
  cases b with
  | false =>
    go_wp2_with fail
    go_ret
    exact ⟨rfl, B3⟩
  | true =>
    have hbnd := HB.out rfl
    have CP := copy_ok _ _ w3 (HV.out w3 B3) (hbnd.mono (by decide))
    have c0 := N3.cellv (v := .int .i64 x0) 0 rfl
    have c1 := N3.cellv (v := .int .i64 x1) 1 rfl
    have c2 := N3.cellv (v := .int .i64 x2) 2 rfl
    have c3 := N3.cellv (v := .int .i64 x3) 3 rfl
    have c4 := N3.cellv (v := .slice aL n cL) 4 rfl
    have c5 := N3.cellv (v := .slice aS m cS) 5 rfl
    go_wp2_with fail
    go_at_call 8
    refine CP.mono ?_
    rintro e w4 ⟨⟨vm, rfl, hW⟩, b4⟩
    have B4 : Below w.heap.size w w4 := B3.trans (b4.mono B3.size)
    have N4 := N3.kept (Kept.of_below b4 (fun _ => False)) id
    have MR := hW.read HF.out
    obtain ⟨bL, dL, bS, dS, -, e0, -⟩ := MR.ex
    simp only at e0
    rw [← HN.out.1, ← HN.out.2] at e0
    subst e0
    have AM := alloc_below w4 (.cells #[.int .i64 x0, .int .i64 x1, .int .i64 x2, .int .i64 x3, .slice bL n dL, .slice bS m dS] 25)
    have FL := fill_ok _ _ (w4.alloc (.cells #[.int .i64 x0, .int .i64 x1, .int .i64 x2, .int .i64 x3, .slice bL n dL, .slice bS m dS] 25)) (MR.carry AM) (hbnd.mono (by decide))
    have FI := fillC_fits HF.out hbnd (by decide)
    have RF : Hd (∀ W, Below w.heap.size w W → Calls Try.prog 11 #[.agg #[.int .i64 x0, .int .i64 x1, .int .i64 x2, .int .i64 x3, .slice aL n cL, .slice aS m cS]] W fun e w' => FCf W (fillC ⟨x0, x1, x2, x3, L, S⟩) e w') := ⟨fun W b => refFill_ok _ _ W (HV.out W b) (hbnd.mono (by decide))⟩
    have TT : Tw gc w4.heap.size #[.int .i64 x0, .int .i64 x1, .int .i64 x2, .int .i64 x3, .slice aL n cL, .slice aS m cS] #[.int .i64 x0, .int .i64 x1, .int .i64 x2, .int .i64 x3, .slice bL n dL, .slice bS m dS] (w4.alloc (.cells #[.int .i64 x0, .int .i64 x1, .int .i64 x2, .int .i64 x3, .slice bL n dL, .slice bS m dS] 25)) := ⟨N4.alloc _, Blk.new w4 25 _⟩
    have BB : Below w.heap.size w (w4.alloc (.cells #[.int .i64 x0, .int .i64 x1, .int .i64 x2, .int .i64 x3, .slice bL n dL, .slice bS m dS] 25)) := B4.trans (AM.mono B4.size)
    have HMR : Hd (CfR (w4.alloc (.cells #[.int .i64 x0, .int .i64 x1, .int .i64 x2, .int .i64 x3, .slice bL n dL, .slice bS m dS] 25)) (.agg #[.int .i64 x0, .int .i64 x1, .int .i64 x2, .int .i64 x3, .slice bL n dL, .slice bS m dS]) ⟨x0, x1, x2, x3, L, S⟩) := ⟨MR.carry AM⟩
    have HBD : Hd (Bnd 82 (fillC ⟨x0, x1, x2, x3, L, S⟩)) := ⟨fillC_bnd hbnd⟩
    have HB9 : Hd (Bnd 900 ⟨x0, x1, x2, x3, L, S⟩) := ⟨hbnd.mono (by decide)⟩
    clear CP hW b4 B3 N3 c0 c1 c2 c3 c4 c5 MR AM N4 B4 hbnd HB
    simp only
    go_upto_region 6 with fail
    generalize w4.alloc _ = w5 at *
    generalize w4.heap.size = gm at *
    have c0 := TT.b2.cellv (v := .int .i64 x0) 0 rfl
    have c1 := TT.b2.cellv (v := .int .i64 x1) 1 rfl
    have c2 := TT.b2.cellv (v := .int .i64 x2) 2 rfl
    have c3 := TT.b2.cellv (v := .int .i64 x3) 3 rfl
    have c4 := TT.b2.cellv (v := .slice bL n dL) 4 rfl
    have c5 := TT.b2.cellv (v := .slice bS m dS) 5 rfl
    go_wp2_with fail
    go_at_call 9
    refine FL.mono ?_
    rintro e w6 ⟨⟨vd, rfl, hW⟩, b6⟩
    obtain ⟨vL, vS, V, rfl, hvL, hvS⟩ := hW.ex
    obtain ⟨eL, fL, e1, hfL, hrL⟩ := owns_read hvL
    obtain ⟨eS, fS, e2, -⟩ := ScW.read hvS
    subst e1 e2
    have HFI : Hd (Fits (fillC ⟨x0, x1, x2, x3, L, S⟩)) := ⟨FI⟩
    have hbd := HBD.out
    have HRN : Hd (∀ s ∈ (fillC ⟨x0, x1, x2, x3, L, S⟩).schemas, s.rules.length ≤ 100000 ∧ ∀ r ∈ s.rules, RlN 100000 r) := ⟨fun s hs => by
      obtain ⟨h1, h2⟩ := hbd.rl s hs
      exact ⟨by omega, fun r hr => by obtain ⟨q0, q1, q2, q3, q4⟩ := h2 r hr; exact ⟨by omega, by omega, by omega, by omega, by omega⟩⟩⟩
    have nn9 := hbd.lv
    have mm9 := hbd.sc
    have HTB : Hd (Tw gc gm #[.int .i64 x0, .int .i64 x1, .int .i64 x2, .int .i64 x3, .slice aL n cL, .slice aS m cS] #[.int .i64 x0, .int .i64 x1, .int .i64 x2, .int .i64 x3, .slice bL n dL, .slice bS m dS] w5 ∧ Below w.heap.size w w5) := ⟨TT, BB⟩
    have HMR2 : Hd (∀ W, Below w5.heap.size w5 W → CfR W _ ⟨x0, x1, x2, x3, L, S⟩) := ⟨fun W b => HMR.out.carry b⟩
    have HSS : Hd _ := ⟨hvS⟩
    have FF : Hd (∀ W, Below w5.heap.size w5 W → Calls Try.prog 9 #[.agg #[.int .i64 x0, .int .i64 x1, .int .i64 x2, .int .i64 x3, .slice bL n dL, .slice bS m dS]] W fun e w' => FCf W (fillC ⟨x0, x1, x2, x3, L, S⟩) e w') := ⟨fun W b => fill_ok _ _ W (HMR2.out W b) HB9.out⟩
    have AE := alloc_below w6 (.cells #[.int .i64 (fillC ⟨x0, x1, x2, x3, L, S⟩).total, .int .i64 (fillC ⟨x0, x1, x2, x3, L, S⟩).period, .int .i64 (fillC ⟨x0, x1, x2, x3, L, S⟩).perSeat, .int .i64 (fillC ⟨x0, x1, x2, x3, L, S⟩).most, .slice eL (fillC ⟨x0, x1, x2, x3, L, S⟩).levels.length fL, .slice eS (fillC ⟨x0, x1, x2, x3, L, S⟩).schemas.length fS] 25)
    have I1 : S1 w5 _ w6.heap.size _ eL (fillC ⟨x0, x1, x2, x3, L, S⟩).levels.length _ (fillC ⟨x0, x1, x2, x3, L, S⟩).schemas V := ⟨b6.trans (AE.mono b6.size), Blk.new w6 25 _, fun hn => by
      obtain ⟨g, cur, ea, hB, hg, hs, -⟩ := hrL hn
      exact ⟨g, ea, hB, cur, hg.kept (Kept.of_below AE (fun _ => False)) id, by rw [hs]; exact Nat.mul_le_mul_right 10 hfL⟩, hvS.grown AE⟩
    clear FL hW b6 HMR TT BB c0 c1 c2 c3 c4 c5 FI AE hrL hvL hbd HSS hvS
    have HSL : Hd ((fillC ⟨x0, x1, x2, x3, L, S⟩).schemas.length = (fillC ⟨x0, x1, x2, x3, L, S⟩).schemas.length) := ⟨rfl⟩
    generalize (fillC ⟨x0, x1, x2, x3, L, S⟩).total = D0 at *
    generalize (fillC ⟨x0, x1, x2, x3, L, S⟩).period = D1 at *
    generalize (fillC ⟨x0, x1, x2, x3, L, S⟩).perSeat = D2 at *
    generalize (fillC ⟨x0, x1, x2, x3, L, S⟩).most = D3 at *
    generalize (fillC ⟨x0, x1, x2, x3, L, S⟩).levels.length = nn at *
    generalize hmm : (fillC ⟨x0, x1, x2, x3, L, S⟩).schemas.length = mm at *
    have HMM : Hd (mm = (fillC ⟨x0, x1, x2, x3, L, S⟩).schemas.length) := ⟨hmm.symm⟩
    clear hmm HSL HBD
    generalize fillC ⟨x0, x1, x2, x3, L, S⟩ = FD at *
    have HI1 : Hd _ := ⟨I1⟩
    clear I1
    go_upto_region 8 with fail
    generalize w6.alloc _ = w7 at *
    generalize w6.heap.size = gd at *
    go_loopw [5] (fun i wr => ∃ k : Nat, k ≤ nn ∧ i = .int .i64 k ∧ Hd (S1 w5 wr gd #[.int .i64 D0, .int .i64 D1, .int .i64 D2, .int .i64 D3, .slice eL nn fL, .slice eS mm fS] eL nn (.slice eS mm fS) FD.schemas V)) (fun i _ => nn - (intOf i).toNat)
    case atStart => exact ⟨0, Nat.zero_le _, rfl, HI1⟩
    case round =>
      obtain ⟨k, hk, rfl, hI⟩ := hrel
      clear HI1
      have e4 := hI.out.box.cellv (v := .slice eL nn fL) 4 rfl
      by_cases hlt : k < nn
      · obtain ⟨g, rfl, hB, hRm⟩ := hI.out.lev (by omega)
        have HK : Hd (k < nn) := ⟨hlt⟩
        have at10 : ∀ j, j < 10 → (∃ y, wr.cell? ⟨g, k * 10 + j, none⟩ = some y) ∧ wr.frozen? ⟨g, k * 10 + j, none⟩ = false := fun j hj => hRm.cell (by omega)
        obtain ⟨⟨y0, z0⟩, f0⟩ : (∃ y, wr.cell? ⟨g, k * 10, none⟩ = some y) ∧ wr.frozen? ⟨g, k * 10, none⟩ = false := at10 0 (by decide)
        obtain ⟨⟨y1, z1⟩, f1⟩ : (∃ y, wr.cell? ⟨g, k * 10 + 1, none⟩ = some y) ∧ wr.frozen? ⟨g, k * 10 + 1, none⟩ = false := at10 1 (by decide)
        obtain ⟨⟨y2, z2⟩, f2⟩ : (∃ y, wr.cell? ⟨g, k * 10 + 2, none⟩ = some y) ∧ wr.frozen? ⟨g, k * 10 + 2, none⟩ = false := at10 2 (by decide)
        obtain ⟨⟨y3, z3⟩, f3⟩ : (∃ y, wr.cell? ⟨g, k * 10 + 3, none⟩ = some y) ∧ wr.frozen? ⟨g, k * 10 + 3, none⟩ = false := at10 3 (by decide)
        obtain ⟨⟨y4, z4⟩, f4⟩ : (∃ y, wr.cell? ⟨g, k * 10 + 4, none⟩ = some y) ∧ wr.frozen? ⟨g, k * 10 + 4, none⟩ = false := at10 4 (by decide)
        obtain ⟨⟨y5, z5⟩, f5⟩ : (∃ y, wr.cell? ⟨g, k * 10 + 5, none⟩ = some y) ∧ wr.frozen? ⟨g, k * 10 + 5, none⟩ = false := at10 5 (by decide)
        obtain ⟨⟨y6, z6⟩, f6⟩ : (∃ y, wr.cell? ⟨g, k * 10 + 6, none⟩ = some y) ∧ wr.frozen? ⟨g, k * 10 + 6, none⟩ = false := at10 6 (by decide)
        obtain ⟨⟨y7, z7⟩, f7⟩ : (∃ y, wr.cell? ⟨g, k * 10 + 7, none⟩ = some y) ∧ wr.frozen? ⟨g, k * 10 + 7, none⟩ = false := at10 7 (by decide)
        obtain ⟨⟨y8, z8⟩, f8⟩ : (∃ y, wr.cell? ⟨g, k * 10 + 8, none⟩ = some y) ∧ wr.frozen? ⟨g, k * 10 + 8, none⟩ = false := at10 8 (by decide)
        obtain ⟨⟨y9, z9⟩, f9⟩ : (∃ y, wr.cell? ⟨g, k * 10 + 9, none⟩ = some y) ∧ wr.frozen? ⟨g, k * 10 + 9, none⟩ = false := at10 9 (by decide)
        have NX : Hd _ := ⟨((((((((((hI.out.wipe (by omega) (k * 10) (.string ⟨#[]⟩)).wipe (by omega) (k * 10 + 1) (.int .i64 0)).wipe (by omega) (k * 10 + 2) (.int .i64 0)).wipe (by omega) (k * 10 + 3) (.int .i64 0)).wipe (by omega) (k * 10 + 4) (.int .i64 0)).wipe (by omega) (k * 10 + 5) (.int .i64 0)).wipe (by omega) (k * 10 + 6) (.int .i64 0)).wipe (by omega) (k * 10 + 7) (.int .i64 0)).wipe (by omega) (k * 10 + 8) (.int .i64 0)).wipe (by omega) (k * 10 + 9) (.int .i64 0))⟩
        clear at10 hRm hI
        go_wp2_with fail
        go_roundw
        case rel => exact ⟨k + 1, HK.out, by go_num, NX⟩
        case measure => have := HK.out; simp [intOf]; omega
      · obtain rfl : k = nn := by omega
        have HI2 : Hd (S2 w5 wr gd #[.int .i64 D0, .int .i64 D1, .int .i64 D2, .int .i64 D3, .slice eL k fL, .slice eS mm fS] eS mm V 0) := ⟨hI.out.next HMM.out HRN.out⟩
        obtain ⟨wq, rfl⟩ : ∃ wq : World, wq = wr := ⟨_, rfl⟩
        clear hI
        go_wp2_with fail
        clear e4
        obtain ⟨nl, hnl⟩ : ∃ nl, nl = k := ⟨_, rfl⟩
        subst hnl
        go_loopw [6] (fun i wr => ∃ k : Nat, k ≤ mm ∧ i = .int .i64 k ∧ Hd (S2 w5 wr gd #[.int .i64 D0, .int .i64 D1, .int .i64 D2, .int .i64 D3, .slice eL nl fL, .slice eS mm fS] eS mm V k)) (fun i _ => mm - (intOf i).toNat)
        case atStart => exact ⟨0, Nat.zero_le _, rfl, HI2⟩
        case round =>
          obtain ⟨k, hk, rfl, hS2⟩ := hrel
          clear HI2
          have e5 := hS2.out.box.cellv (v := .slice eS mm fS) 5 rfl
          by_cases hlt : k < mm
          · have hkV : k < V.length := by rw [hS2.out.len]; exact hlt
            obtain ⟨a, rn, rc, Q, eV, hrc, h3⟩ := hS2.out.enter hkV
            obtain ⟨gS, curS, rfl, hBS, hgS, hsS, hcS⟩ := hS2.out.sch (by omega)
            have y4 : wr.cell? ⟨gS, k * 5 + 4, none⟩ = some (.slice a rn rc) := by rw [hgS.cell, hcS k hkV (Nat.le_refl _), eV]
            have HI3 : Hd _ := ⟨h3⟩
            have HK : Hd (k < mm ∧ k < V.length) := ⟨hlt, hkV⟩
            have HEV : Hd (V[k] = .slice a rn rc) := ⟨eV⟩
            have rn9 := h3.own.le
            obtain ⟨wq2, rfl⟩ : ∃ wq : World, wq = wr := ⟨_, rfl⟩
            clear hS2 h3 hcS hgS hsS curS hBS eV
            go_wp2_with fail
            clear e5 y4
            go_loopw [7] (fun i wr => ∃ p : Nat, p ≤ rn ∧ i = .int .i64 p ∧ Hd (S3 w5 wr gd #[.int .i64 D0, .int .i64 D1, .int .i64 D2, .int .i64 D3, .slice eL nl fL, .slice (some ⟨gS, 0, none⟩) mm fS] (some ⟨gS, 0, none⟩) mm V k a rn Q p)) (fun i _ => rn - (intOf i).toNat)
            case atStart => exact ⟨0, Nat.zero_le _, rfl, HI3⟩
            case round =>
              obtain ⟨p, hp, rfl, hS3⟩ := hrel
              clear HI3
              have e5 := hS3.out.box.cellv (v := .slice (some ⟨gS, 0, none⟩) mm fS) 5 rfl
              have y4 : wr.cell? ⟨gS, k * 5 + 4, none⟩ = some (.slice a rn rc) := by
                obtain ⟨g', cur, e, -, hg, -, hc⟩ := hS3.out.sch (by omega)
                injection e with e
                injection e with e
                subst e
                rw [hg.cell, hc k HK.out.2 (Nat.le_refl _), HEV.out]
              by_cases hlt2 : p < rn
              · obtain ⟨g3, cur3, rfl, hB3, hg3, hs3, hc3⟩ := hS3.out.own.row (by omega)
                have hpQ : p < Q.length := by rw [hS3.out.own.len]; exact hlt2
                have u0 : wr.cell? ⟨g3, p * 5, none⟩ = some Q[p].v0 := by rw [hg3.cell]; exact hc3 p hpQ (Nat.le_refl _) 0 (by decide)
                have u1 : wr.cell? ⟨g3, p * 5 + 1, none⟩ = some Q[p].v1 := by rw [hg3.cell]; exact hc3 p hpQ (Nat.le_refl _) 1 (by decide)
                have u2 : wr.cell? ⟨g3, p * 5 + 2, none⟩ = some Q[p].v2 := by rw [hg3.cell]; exact hc3 p hpQ (Nat.le_refl _) 2 (by decide)
                have u3 : wr.cell? ⟨g3, p * 5 + 3, none⟩ = some Q[p].v3 := by rw [hg3.cell]; exact hc3 p hpQ (Nat.le_refl _) 3 (by decide)
                have u4 : wr.cell? ⟨g3, p * 5 + 4, none⟩ = some Q[p].v4 := by rw [hg3.cell]; exact hc3 p hpQ (Nat.le_refl _) 4 (by decide)
                obtain ⟨⟨q0a, q0n, q0c, q0e, -⟩, ⟨q1a, q1n, q1c, q1e, -⟩, ⟨q2a, q2n, q2c, q2e, -⟩, ⟨q3a, q3n, q3c, q3e, -⟩, ⟨q4a, q4n, q4c, q4e, -⟩⟩ := hS3.out.own.qx p hpQ
                have HQ : Hd (Q[p] = ⟨.slice q0a q0n q0c, .slice q1a q1n q1c, .slice q2a q2n q2c, .slice q3a q3n q3c, .slice q4a q4n q4c⟩ ∧ p < Q.length) := ⟨by
                  have : Q[p] = ⟨Q[p].v0, Q[p].v1, Q[p].v2, Q[p].v3, Q[p].v4⟩ := rfl
                  rw [this, q0e, q1e, q2e, q3e, q4e], hpQ⟩
                rw [q0e] at u0
                rw [q1e] at u1
                rw [q2e] at u2
                rw [q3e] at u3
                rw [q4e] at u4
                have HP : Hd (p < rn) := ⟨hlt2⟩
                have AL := alloc_below wr (.cells #[.slice q0a q0n q0c, .slice q1a q1n q1c, .slice q2a q2n q2c, .slice q3a q3n q3c, .slice q4a q4n q4c] 37)
                have NB := Blk.new wr 37 #[.slice q0a q0n q0c, .slice q1a q1n q1c, .slice q2a q2n q2c, .slice q3a q3n q3c, .slice q4a q4n q4c]
                have HS3a : Hd _ := ⟨hS3.out.k9 (K9.of_below AL) (hS3.out.bel.trans (AL.mono hS3.out.bel.size))⟩
                clear q0e q1e q2e q3e q4e hc3 hs3 hB3 hS3 AL hg3 cur3
                go_upto_region 18 with fail
                generalize wr.alloc _ = wa at *
                generalize wr.heap.size = gb at *
                clear u0 u1 u2 u3 u4 e5 y4
                have n0 := NB.cellv (v := .slice q0a q0n q0c) 0 rfl
                have n1 := NB.cellv (v := .slice q1a q1n q1c) 1 rfl
                have n2 := NB.cellv (v := .slice q2a q2n q2c) 2 rfl
                have n3 := NB.cellv (v := .slice q3a q3n q3c) 3 rfl
                have n4 := NB.cellv (v := .slice q4a q4n q4c) 4 rfl
                have AL := alloc_below wa (.cells #[.slice q0a q0n q0c, .slice q1a q1n q1c, .slice q2a q2n q2c, .slice q3a q3n q3c, .slice q4a q4n q4c] 35)
                have NB5 := Blk.new wa 35 #[.slice q0a q0n q0c, .slice q1a q1n q1c, .slice q2a q2n q2c, .slice q3a q3n q3c, .slice q4a q4n q4c]
                have HS4 : Hd (S3 w5 (wa.alloc (.cells #[.slice q0a q0n q0c, .slice q1a q1n q1c, .slice q2a q2n q2c, .slice q3a q3n q3c, .slice q4a q4n q4c] 35)) gd #[.int .i64 D0, .int .i64 D1, .int .i64 D2, .int .i64 D3, .slice eL nl fL, .slice (some ⟨gS, 0, none⟩) mm fS] (some ⟨gS, 0, none⟩) mm V k (some ⟨g3, 0, none⟩) rn Q p ∧ Blk (wa.alloc (.cells #[.slice q0a q0n q0c, .slice q1a q1n q1c, .slice q2a q2n q2c, .slice q3a q3n q3c, .slice q4a q4n q4c] 35)) wa.heap.size 35 #[.slice q0a q0n q0c, .slice q1a q1n q1c, .slice q2a q2n q2c, .slice q3a q3n q3c, .slice q4a q4n q4c]) := ⟨HS3a.out.k9 (K9.of_below AL) (HS3a.out.bel.trans (AL.mono HS3a.out.bel.size)), NB5⟩
                clear HS3a AL NB NB5
                go_wp2_with fail
                clear n0 n1 n2 n3 n4
                generalize wa.alloc _ = wb at *
                generalize wa.heap.size = g4 at *
                go_loopw [72] (fun i wr => ∃ t : Nat, t ≤ 5 ∧ i = .int .i64 t ∧ Hd (S3 w5 wr gd #[.int .i64 D0, .int .i64 D1, .int .i64 D2, .int .i64 D3, .slice eL nl fL, .slice (some ⟨gS, 0, none⟩) mm fS] (some ⟨gS, 0, none⟩) mm V k (some ⟨g3, 0, none⟩) rn Q p ∧ Blk wr g4 35 #[.slice q0a q0n q0c, .slice q1a q1n q1c, .slice q2a q2n q2c, .slice q3a q3n q3c, .slice q4a q4n q4c])) (fun i _ => 5 - (intOf i).toNat)
                case atStart => exact ⟨0, Nat.zero_le _, rfl, HS4⟩
                case round =>
                  obtain ⟨t, ht, rfl, hS5⟩ := hrel
                  clear HS4
                  by_cases hlt3 : t < 5
                  · obtain ⟨la, ln, lc, le, ln9, lnc, -⟩ := qx_at (hS5.out.1.own.qx p HQ.out.2) t hlt3
                    have c5 : wr.cell? ⟨g4, t, none⟩ = some (.slice la ln lc) := by rw [hS5.out.2.cell, q5_cell HQ.out.1 t hlt3, le]
                    have HLE : Hd (∀ h : t < 5, (q5L (Q[p]'HQ.out.2))[t]'h = .slice la ln lc) := ⟨fun _ => le⟩
                    have HT : Hd (t < 5) := ⟨hlt3⟩
                    obtain ⟨wq3, rfl⟩ : ∃ wq : World, wq = wr := ⟨_, rfl⟩
                    clear le
                    go_wp2_with fail
                    clear c5
                    go_loopw [11] (fun i wr => ∃ z : Nat, z ≤ ln ∧ i = .int .i64 z ∧ Hd (S3 w5 wr gd #[.int .i64 D0, .int .i64 D1, .int .i64 D2, .int .i64 D3, .slice eL nl fL, .slice (some ⟨gS, 0, none⟩) mm fS] (some ⟨gS, 0, none⟩) mm V k (some ⟨g3, 0, none⟩) rn Q p ∧ Blk wr g4 35 #[.slice q0a q0n q0c, .slice q1a q1n q1c, .slice q2a q2n q2c, .slice q3a q3n q3c, .slice q4a q4n q4c])) (fun i _ => ln - (intOf i).toNat)
                    case atStart => exact ⟨0, Nat.zero_le _, rfl, hS5⟩
                    case round =>
                      obtain ⟨z, hz, rfl, hS6⟩ := hrel
                      clear hS5
                      by_cases hlt4 : z < ln
                      · obtain ⟨la', ln', lc', le', -, -, lrow⟩ := qx_at (hS6.out.1.own.qx p HQ.out.2) t HT.out
                        rw [HLE.out HT.out] at le'
                        injection le' with q1 q2 q3
                        subst q1 q2 q3
                        obtain ⟨b, rfl, hBb, hRm⟩ := lrow (by omega)
                        obtain ⟨⟨y, hy⟩, hf⟩ := hRm.cell hlt4
                        have HZ : Hd (z < ln) := ⟨hlt4⟩
                        have NX : Hd _ := ⟨And.intro (hS6.out.1.k9 (K9.set (i := z) hRm (.string ⟨#[115, 112, 111, 105, 108, 116]⟩)) (below_set hS6.out.1.bel (p := ⟨b, z, none⟩) hBb (.string ⟨#[115, 112, 111, 105, 108, 116]⟩))) ((K9.set (i := z) hRm (.string ⟨#[115, 112, 111, 105, 108, 116]⟩)).oth _ 35 _ (by decide) hS6.out.2)⟩
                        clear hRm lrow hS6
                        go_wp2_with fail
                        go_roundw
                        case rel => exact ⟨z + 1, HZ.out, by go_num, NX⟩
                        case measure => have := HZ.out; simp [intOf]; omega
                      · obtain rfl : z = ln := by omega
                        go_wp2_with fail
                        go_roundw
                        case rel => exact ⟨t + 1, HT.out, by go_num, hS6⟩
                        case measure => have := HT.out; simp [intOf]; omega
                  · obtain rfl : t = 5 := by omega
                    have e5 := hS5.out.1.box.cellv (v := .slice (some ⟨gS, 0, none⟩) mm fS) 5 rfl
                    have y4 : wr.cell? ⟨gS, k * 5 + 4, none⟩ = some (.slice (some ⟨g3, 0, none⟩) rn rc) := by
                      obtain ⟨g', cur, e, -, hg, -, hc⟩ := hS5.out.1.sch (by omega)
                      injection e with e
                      injection e with e
                      subst e
                      rw [hg.cell, hc k HK.out.2 (Nat.le_refl _), HEV.out]
                    obtain ⟨-, -, -, -, hRm⟩ := hS5.out.1.own.wipe HP.out (.slice none 0 0) (.slice none 0 0) (.slice none 0 0) (.slice none 0 0) (.slice none 0 0)
                    have hplt := HP.out
                    obtain ⟨⟨y0, z0⟩, f0⟩ := hRm.cell (i := p * 5) (by omega)
                    obtain ⟨⟨y1, z1⟩, f1⟩ := hRm.cell (i := p * 5 + 1) (by omega)
                    obtain ⟨⟨y2, z2⟩, f2⟩ := hRm.cell (i := p * 5 + 2) (by omega)
                    obtain ⟨⟨y3, z3⟩, f3⟩ := hRm.cell (i := p * 5 + 3) (by omega)
                    obtain ⟨⟨y5, z4⟩, f4⟩ := hRm.cell (i := p * 5 + 4) (by omega)
                    have NX : Hd _ := ⟨hS5.out.1.wipe HP.out (.slice none 0 0) (.slice none 0 0) (.slice none 0 0) (.slice none 0 0) (.slice none 0 0)⟩
                    clear hRm hS5
                    go_wp2_with fail
                    go_roundw
                    case rel => exact ⟨p + 1, HP.out, by go_num, NX⟩
                    case measure => have := HP.out; simp [intOf]; omega
              · obtain rfl : p = rn := by omega
                obtain ⟨hRm, hN2⟩ := hS3.out.leave (by omega) (.string ⟨#[]⟩) (.string ⟨#[]⟩) (.int .i64 0) (.int .i64 0) (.slice none 0 0)
                have hklt := HK.out.1
                obtain ⟨⟨y0, z0⟩, f0⟩ := hRm.cell (i := k * 5) (by omega)
                obtain ⟨⟨y1, z1⟩, f1⟩ := hRm.cell (i := k * 5 + 1) (by omega)
                obtain ⟨⟨y2, z2⟩, f2⟩ := hRm.cell (i := k * 5 + 2) (by omega)
                obtain ⟨⟨y3, z3⟩, f3⟩ := hRm.cell (i := k * 5 + 3) (by omega)
                have f4 := (hRm.cell (i := k * 5 + 4) (by omega)).2
                have NX : Hd _ := ⟨hN2⟩
                clear hRm hS3 hN2
                go_wp2_with fail
                go_roundw
                case rel => exact ⟨k + 1, HK.out.1, by go_num, NX⟩
                case measure => have := HK.out.1; simp [intOf]; omega
          · obtain rfl : k = mm := by omega
            have B7 := hS2.out.bel
            have TT := HTB.out.1.kept (Kept.of_below B7 (fun _ => False)) id
            clear hS2
            go_upto_region 28 with fail
            have DR : Below wr.heap.size wr wr.drew := ⟨rfl, rfl, rfl, Nat.le_refl _, fun _ _ => rfl⟩
            have B0 : Below w5.heap.size w5 wr.drew := B7.trans (DR.mono B7.size)
            have A0 := TT.kept (Kept.of_below DR (fun _ => False)) id
            have HBW := HTB.out.2
            refine AnyG.start (T := Tw gc gm #[.int .i64 x0, .int .i64 x1, .int .i64 x2, .int .i64 x3, .slice aL n cL, .slice aS m cS] #[.int .i64 x0, .int .i64 x1, .int .i64 x2, .int .i64 x3, .slice bL n dL, .slice bS m dS]) (U := fun _ => True) (j0 := 100) (by kernel_rfl) ?_
            clear DR TT B7 e5 HMM
            generalize wr.drew = w0 at *
            refine AnyG.takeAt 0 100 (v := ?_) rfl rfl (by kernel_rfl) (by kernel_rfl) (by kernel_rfl) (by decide) (fun _ _ _ h => h) ⟨A0, fun _ => trivial⟩ (by rfl) ?_ ?_
            rotate_left
            · intro w hSw
              have s10 := hSw.b2.cellv (v := .int .i64 x0) 0 rfl
              have s11 := hSw.b2.cellv (v := .int .i64 x1) 1 rfl
              have s12 := hSw.b2.cellv (v := .int .i64 x2) 2 rfl
              have s13 := hSw.b2.cellv (v := .int .i64 x3) 3 rfl
              have s14 := hSw.b2.cellv (v := .slice bL n dL) 4 rfl
              have s15 := hSw.b2.cellv (v := .slice bS m dS) 5 rfl
              go_simp
              rfl
            simp only [List.setIfInBounds_toArray, List.set_cons_zero, List.set_cons_succ]
            refine AnyG.takeAt 1 101 (v := ?_) rfl rfl (by kernel_rfl) (by kernel_rfl) (by kernel_rfl) (by decide) (fun _ _ _ h => h) ⟨A0, fun _ => trivial⟩ (by rfl) ?_ ?_
            rotate_left
            · intro w hSw
              have s10 := hSw.b1.cellv (v := .int .i64 x0) 0 rfl
              have s11 := hSw.b1.cellv (v := .int .i64 x1) 1 rfl
              have s12 := hSw.b1.cellv (v := .int .i64 x2) 2 rfl
              have s13 := hSw.b1.cellv (v := .int .i64 x3) 3 rfl
              have s14 := hSw.b1.cellv (v := .slice aL n cL) 4 rfl
              have s15 := hSw.b1.cellv (v := .slice aS m cS) 5 rfl
              go_simp
              rfl
            simp only [List.setIfInBounds_toArray, List.set_cons_zero, List.set_cons_succ]
            refine AnyG.ready (rs := [2]) (by kernel_rfl) (by simp) ?_
            refine AllG.cons rfl (fun K hK => ?_) AllG.nil
            go_simp
            refine (same_cfr (HMR2.out w0 B0) (HV.out w0 (HBW.trans (B0.mono HBW.size)))).mono ?_
            rintro e wk1 ⟨rfl, b1⟩
            have Ak1 := A0.kept (Kept.of_below b1 (fun _ => False)) id
            have Bk1 : Below w5.heap.size w5 wk1 := B0.trans (b1.mono B0.size)
            refine hK.out _ _ ⟨Ak1, fun _ => trivial⟩ ?_
            clear hK K b1 A0 B0
            refine AnyG.takeAt 3 103 (v := ?_) rfl rfl (by kernel_rfl) (by kernel_rfl) (by kernel_rfl) (by decide) (fun _ _ _ h => h) ⟨Ak1, fun _ => trivial⟩ (by rfl) ?_ ?_
            rotate_left
            · intro w hSw
              go_simp
              rfl
            simp only [List.setIfInBounds_toArray, List.set_cons_zero, List.set_cons_succ]
            refine AnyG.takeAt 4 104 (v := ?_) rfl rfl (by kernel_rfl) (by kernel_rfl) (by kernel_rfl) (by decide) (fun _ _ _ h => h) ⟨Ak1, fun _ => trivial⟩ (by rfl) ?_ ?_
            rotate_left
            · intro w hSw
              have s10 := hSw.b2.cellv (v := .int .i64 x0) 0 rfl
              have s11 := hSw.b2.cellv (v := .int .i64 x1) 1 rfl
              have s12 := hSw.b2.cellv (v := .int .i64 x2) 2 rfl
              have s13 := hSw.b2.cellv (v := .int .i64 x3) 3 rfl
              have s14 := hSw.b2.cellv (v := .slice bL n dL) 4 rfl
              have s15 := hSw.b2.cellv (v := .slice bS m dS) 5 rfl
              go_simp
              rfl
            simp only [List.setIfInBounds_toArray, List.set_cons_zero, List.set_cons_succ]
            refine AnyG.takeAt 6 106 (v := ?_) rfl rfl (by kernel_rfl) (by kernel_rfl) (by kernel_rfl) (by decide) (fun _ _ _ h => h) ⟨Ak1, fun _ => trivial⟩ (by rfl) ?_ ?_
            rotate_left
            · intro w hSw
              have s10 := hSw.b1.cellv (v := .int .i64 x0) 0 rfl
              have s11 := hSw.b1.cellv (v := .int .i64 x1) 1 rfl
              have s12 := hSw.b1.cellv (v := .int .i64 x2) 2 rfl
              have s13 := hSw.b1.cellv (v := .int .i64 x3) 3 rfl
              have s14 := hSw.b1.cellv (v := .slice aL n cL) 4 rfl
              have s15 := hSw.b1.cellv (v := .slice aS m cS) 5 rfl
              go_simp
              rfl
            simp only [List.setIfInBounds_toArray, List.set_cons_zero, List.set_cons_succ]
            refine AnyG.ready (rs := [5]) (by kernel_rfl) (by simp) ?_
            refine AllG.cons rfl (fun K hK => ?_) AllG.nil
            go_simp
            refine (FF.out wk1 Bk1).mono ?_
            rintro e wk2 ⟨⟨v2, rfl, h2⟩, b2⟩
            replace h2 := h2.read HFI.out
            have Ak2 := Ak1.kept (Kept.of_below b2 (fun _ => False)) id
            have Bk2 : Below w5.heap.size w5 wk2 := Bk1.trans (b2.mono Bk1.size)
            refine hK.out _ _ ⟨Ak2, fun _ => trivial⟩ ?_
            clear hK K b2 Ak1 Bk1
            refine AnyG.ready (rs := [7]) (by kernel_rfl) (by simp) ?_
            refine AllG.cons rfl (fun K hK => ?_) AllG.nil
            go_simp
            refine (RF.out wk2 (HBW.trans (Bk2.mono HBW.size))).mono ?_
            rintro e wk3 ⟨⟨v3, rfl, h3⟩, b3⟩
            replace h3 := h3.read HFI.out
            have Ak3 := Ak2.kept (Kept.of_below b3 (fun _ => False)) id
            have Bk3 : Below w5.heap.size w5 wk3 := Bk2.trans (b3.mono Bk2.size)
            replace h2 := h2.carry b3
            refine hK.out _ _ ⟨Ak3, fun _ => trivial⟩ ?_
            clear hK K b3 Ak2 Bk2
            refine AnyG.ready (rs := [8]) (by kernel_rfl) (by simp) ?_
            refine AllG.cons rfl (fun K hK => ?_) AllG.nil
            go_simp
            refine (same_cfr h2 h3).mono ?_
            rintro e wk4 ⟨rfl, b4⟩
            have Ak4 := Ak3.kept (Kept.of_below b4 (fun _ => False)) id
            have Bk4 : Below w5.heap.size w5 wk4 := Bk3.trans (b4.mono Bk3.size)
            refine hK.out _ _ ⟨Ak4, fun _ => trivial⟩ ?_
            clear hK K b4 Ak3 Bk3
            refine AnyG.takeAt 9 109 (v := ?_) rfl rfl (by kernel_rfl) (by kernel_rfl) (by kernel_rfl) (by decide) (fun _ _ _ h => h) ⟨Ak4, fun _ => trivial⟩ (by rfl) ?_ ?_
            rotate_left
            · intro w hSw
              go_simp
              rfl
            simp only [List.setIfInBounds_toArray, List.set_cons_zero, List.set_cons_succ]
            refine AnyG.takeAt 10 2 (v := ?_) rfl rfl (by kernel_rfl) (by kernel_rfl) (by kernel_rfl) (by decide) (fun _ _ _ h => h) ⟨Ak4, fun _ => trivial⟩ (by rfl) ?_ ?_
            rotate_left
            · intro w hSw
              go_simp
              rfl
            simp only [List.setIfInBounds_toArray, List.set_cons_zero, List.set_cons_succ]
            refine AnyG.done (by kernel_rfl) ?_ _
            go_wp2_with fail
            go_ret
            exact ⟨rfl, HBW.trans (Bk4.mono HBW.size)⟩
end Go.Proofs.Ytikofndmfbeliaa
