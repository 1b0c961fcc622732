/-
  'FillKeeps' answers true. Condition: the configuration lies in memory.
-/
import Derived.Test.YtikofndmfbeliaaFlK
import Derived.Deep.CutBlock
import Derived.Deep.DeepCutAuto
namespace Go.Proofs.Ytikofndmfbeliaa
open Go.RowKit

theorem Tw.other {g1 g2 : Nat} {c1 c2 : Array Value} {w : World} (h : Tw g1 g2 c1 c2 w) {p : Addr} (h1 : g1 ≠ p.block) (h2 : g2 ≠ p.block) (v : Value) : Tw g1 g2 c1 c2 (w.setCell p v) := ⟨h.b1.other h1 v, h.b2.other h2 v⟩
/-- Three boxes. -/
structure Th (g1 g2 g3 : Nat) (c1 c2 c3 : Array Value) (w : World) : Prop where
  t : Tw g1 g2 c1 c2 w
  e : Blk w g3 25 c3
theorem Th.kept {g1 g2 g3 : Nat} {c1 c2 c3 : Array Value} {w w' : World} (h : Th g1 g2 g3 c1 c2 c3 w) (k : Kept (fun _ => False) w w') (_ : False → False) : Th g1 g2 g3 c1 c2 c3 w' := ⟨h.t.kept k id, h.e.kept k id⟩
theorem below_set {w0 w : World} (h : Below w0.heap.size w0 w) {p : Addr} (hp : w0.heap.size ≤ p.block) (v : Value) : Below w0.heap.size w0 (w.setCell p v) :=
  h.trans (((Kept.refl (fun k => k = p.block) w).setCell p v (.inl rfl)).below h.size (fun k hk => by rw [hk]; exact hp))
set_option maxRecDepth 20000 in
set_option maxHeartbeats 16000000 in
theorem keeps_ok (v : Value) (C : Cf) (w : World) (h : CfR w v C) : Calls Try.prog 4 #[v] w fun e w' => e = .returned (.bool true) ∧ Below w.heap.size w w' := by
  have HF : Hd (Fits C) := ⟨h.fits⟩
  have HV : Hd (∀ W, Below w.heap.size w W → CfR W v C) := ⟨fun W b => h.carry b⟩
  obtain ⟨aL, cL, aS, cS, -, e0, -⟩ := h.ex
  subst e0
  clear h
  obtain ⟨x0, x1, x2, x3, L, S⟩ := C
  simp only at HV ⊢
  obtain ⟨n, hn⟩ : ∃ n, n = L.length := ⟨_, rfl⟩
  obtain ⟨m, hm⟩ : ∃ m, m = S.length := ⟨_, rfl⟩
  have HN : Hd (n = L.length ∧ m = S.length) := ⟨hn, hm⟩
  rw [← hn, ← hm] at HV ⊢
  clear hn hm
  have AL := alloc_below w (.cells #[.int .i64 x0, .int .i64 x1, .int .i64 x2, .int .i64 x3, .slice aL n cL, .slice aS m cS] 25)
  have NB := Blk.new w 25 #[.int .i64 x0, .int .i64 x1, .int .i64 x2, .int .i64 x3, .slice aL n cL, .slice aS m cS]
  have AW := awake_ok (w.alloc (.cells #[.int .i64 x0, .int .i64 x1, .int .i64 x2, .int .i64 x3, .slice aL n cL, .slice aS m cS] 25))
  go_enter Try.func4, Try.ntmps4
  go_wp2_with fail
  go_at_call 6
  refine AW.mono ?_
  rintro e w2 ⟨rfl, b2⟩
  have B2 : Below w.heap.size w w2 := AL.trans (b2.mono AL.size)
  have N2 := NB.kept (Kept.of_below b2 (fun _ => False)) id
  clear AW AL NB b2
  have SM := small_any _ _ w2 (HV.out w2 B2)
  have c0 := N2.cellv (v := .int .i64 x0) 0 rfl
  have c1 := N2.cellv (v := .int .i64 x1) 1 rfl
  have c2 := N2.cellv (v := .int .i64 x2) 2 rfl
  have c3 := N2.cellv (v := .int .i64 x3) 3 rfl
  have c4 := N2.cellv (v := .slice aL n cL) 4 rfl
  have c5 := N2.cellv (v := .slice aS m cS) 5 rfl
  obtain ⟨gc, hgc⟩ : ∃ gc, gc = w.heap.size := ⟨_, rfl⟩
  rw [← hgc] at c0 c1 c2 c3 c4 c5 N2 ⊢
  have HGC : Hd (gc = w.heap.size) := ⟨hgc⟩
  clear hgc
  go_wp2_with fail
  go_at_call 7
  refine SM.mono ?_
  rintro e w3 ⟨⟨b, rfl, hbnd⟩, b3⟩
  have B3 : Below w.heap.size w w3 := B2.trans (b3.mono B2.size)
  have N3 := N2.kept (Kept.of_below b3 (fun _ => False)) id
  have HB : Hd (b = true → Bnd 80 ⟨x0, x1, x2, x3, L, S⟩) := ⟨hbnd⟩
  clear SM b3 B2 c0 c1 c2 c3 c4 c5 hbnd N2
  cases b with
  | false =>
    go_wp2_with fail
    go_ret
    exact ⟨rfl, B3⟩
  | true =>
    have hbnd := HB.out rfl
    have FL := fill_ok _ _ w3 (HV.out w3 B3) (hbnd.mono (by decide))
    have FI := fillC_fits HF.out hbnd (by decide)
    have c0 := N3.cellv (v := .int .i64 x0) 0 rfl
    have c1 := N3.cellv (v := .int .i64 x1) 1 rfl
    have c2 := N3.cellv (v := .int .i64 x2) 2 rfl
    have c3 := N3.cellv (v := .int .i64 x3) 3 rfl
    have c4 := N3.cellv (v := .slice aL n cL) 4 rfl
    have c5 := N3.cellv (v := .slice aS m cS) 5 rfl
    go_wp2_with fail
    go_at_call 9
    refine FL.mono ?_
    rintro e w4 ⟨⟨vd, rfl, hW⟩, b4⟩
    have B4 : Below w.heap.size w w4 := B3.trans (b4.mono B3.size)
    have N4 := N3.kept (Kept.of_below b4 (fun _ => False)) id
    have DR := hW.read FI
    obtain ⟨bL, dL, bS, dS, -, e0, k1, k2, -⟩ := DR.ex
    subst e0
    obtain ⟨T, t1, t2, -⟩ := fillL_ext L
    obtain ⟨U, u1, u2, -⟩ := fillS_ext S
    have e1 : (fillC ⟨x0, x1, x2, x3, L, S⟩).levels = L ++ T := t1
    have e2 : (fillC ⟨x0, x1, x2, x3, L, S⟩).schemas = S ++ U := u1
    have HDR : Hd (∀ W, Below w4.heap.size w4 W → CfR W _ (fillC ⟨x0, x1, x2, x3, L, S⟩)) := ⟨fun W b => DR.carry b⟩
    have HER : Hd (∀ W, Below w4.heap.size w4 W → CfR W (.agg #[.int .i64 x0, .int .i64 x1, .int .i64 x2, .int .i64 x3, .slice bL L.length dL, .slice bS S.length dS]) ⟨x0, x1, x2, x3, L, S⟩) := ⟨fun W b => CfR.first (C := ⟨x0, x1, x2, x3, L, S⟩) (DR.carry b) e1 e2⟩
    have HI : Hd (fillC (fillC ⟨x0, x1, x2, x3, L, S⟩) = fillC ⟨x0, x1, x2, x3, L, S⟩ ∧ Bnd 900 (fillC ⟨x0, x1, x2, x3, L, S⟩) ∧ Fits (fillC ⟨x0, x1, x2, x3, L, S⟩)) := ⟨fillC_idem _, (fillC_bnd hbnd).mono (by decide), FI⟩
    have HD0 : Hd (x0 ≠ 0 → (fillC ⟨x0, x1, x2, x3, L, S⟩).total = x0) := ⟨fun h => orU_keep _ h⟩
    have HD1 : Hd (x1 ≠ 0 → (fillC ⟨x0, x1, x2, x3, L, S⟩).period = x1) := ⟨fun h => orU_keep _ h⟩
    have HD2 : Hd (x2 ≠ 0 → (fillC ⟨x0, x1, x2, x3, L, S⟩).perSeat = x2) := ⟨fun h => orU_keep _ h⟩
    have HD3 : Hd (x3 ≠ 0 → (fillC ⟨x0, x1, x2, x3, L, S⟩).most = x3) := ⟨fun h => orU_keep _ h⟩
    have HZ0 : Hd (((fillC ⟨x0, x1, x2, x3, L, S⟩).total != 0) = true) := ⟨bne_iff_ne.2 (orU_ne x0 100 (by decide))⟩
    have HZ1 : Hd (((fillC ⟨x0, x1, x2, x3, L, S⟩).period != 0) = true) := ⟨bne_iff_ne.2 (orU_ne x1 10 (by decide))⟩
    have HZ2 : Hd (((fillC ⟨x0, x1, x2, x3, L, S⟩).perSeat != 0) = true) := ⟨bne_iff_ne.2 (orU_ne x2 100 (by decide))⟩
    have HZ3 : Hd (((fillC ⟨x0, x1, x2, x3, L, S⟩).most != 0) = true) := ⟨bne_iff_ne.2 (orU_ne x3 10 (by decide))⟩
    have l1 : L.length ≤ (fillC ⟨x0, x1, x2, x3, L, S⟩).levels.length ∧ (fillC ⟨x0, x1, x2, x3, L, S⟩).levels.length ≤ L.length + 2 := by rw [e1, List.length_append]; omega
    have l2 : S.length ≤ (fillC ⟨x0, x1, x2, x3, L, S⟩).schemas.length ∧ (fillC ⟨x0, x1, x2, x3, L, S⟩).schemas.length ≤ S.length + 2 := by rw [e2, List.length_append]; omega
    have n40 := hbnd.lv
    have m80 := hbnd.sc
    simp only at n40 m80
    clear FL FI hW b4 B3 N3 c0 c1 c2 c3 c4 c5 DR t1 u1 e1 e2 t2 u2 hbnd HB
    generalize (fillC ⟨x0, x1, x2, x3, L, S⟩).total = D0 at *
    generalize (fillC ⟨x0, x1, x2, x3, L, S⟩).period = D1 at *
    generalize (fillC ⟨x0, x1, x2, x3, L, S⟩).perSeat = D2 at *
    generalize (fillC ⟨x0, x1, x2, x3, L, S⟩).most = D3 at *
    generalize (fillC ⟨x0, x1, x2, x3, L, S⟩).levels.length = nn at *
    generalize (fillC ⟨x0, x1, x2, x3, L, S⟩).schemas.length = mm at *
    generalize fillC ⟨x0, x1, x2, x3, L, S⟩ = FD at *
    rw [← HN.out.1, ← HN.out.2] at HER
    rw [← HN.out.1] at l1 n40
    rw [← HN.out.2] at l2 m80
    obtain ⟨l1a, l1b⟩ := l1
    obtain ⟨l2a, l2b⟩ := l2
    have TT : Tw gc w4.heap.size #[.int .i64 x0, .int .i64 x1, .int .i64 x2, .int .i64 x3, .slice aL n cL, .slice aS m cS] #[.int .i64 D0, .int .i64 D1, .int .i64 D2, .int .i64 D3, .slice bL nn dL, .slice bS mm dS] (w4.alloc (.cells #[.int .i64 D0, .int .i64 D1, .int .i64 D2, .int .i64 D3, .slice bL nn dL, .slice bS mm dS] 25)) := ⟨N4.alloc _, Blk.new w4 25 _⟩
    have BA : Below w4.heap.size w4 (w4.alloc (.cells #[.int .i64 D0, .int .i64 D1, .int .i64 D2, .int .i64 D3, .slice bL nn dL, .slice bS mm dS] 25)) := alloc_below w4 _
    have HGL : Hd (gc < w4.heap.size) := ⟨N4.lt⟩
    clear N4
    go_upto_region 6 with fail
    generalize w4.alloc _ = w5 at *
    obtain ⟨gd, hgd⟩ : ∃ gd, gd = w4.heap.size := ⟨_, rfl⟩
    have HGD : Hd (gd = w4.heap.size ∧ Below w4.heap.size w4 w5 ∧ Below w.heap.size w w4) := ⟨hgd, BA, B4⟩
    have HTT : Hd (Tw gc gd #[.int .i64 x0, .int .i64 x1, .int .i64 x2, .int .i64 x3, .slice aL n cL, .slice aS m cS] #[.int .i64 D0, .int .i64 D1, .int .i64 D2, .int .i64 D3, .slice bL nn dL, .slice bS mm dS] w5) := ⟨by rw [hgd]; exact TT⟩
    rw [← hgd]
    clear hgd BA B4 TT
    have c0 := HTT.out.b1.cellv (v := .int .i64 x0) 0 rfl
    have c1 := HTT.out.b1.cellv (v := .int .i64 x1) 1 rfl
    have c2 := HTT.out.b1.cellv (v := .int .i64 x2) 2 rfl
    have c3 := HTT.out.b1.cellv (v := .int .i64 x3) 3 rfl
    have c4 := HTT.out.b1.cellv (v := .slice aL n cL) 4 rfl
    have c5 := HTT.out.b1.cellv (v := .slice aS m cS) 5 rfl
    have d0 := HTT.out.b2.cellv (v := .int .i64 D0) 0 rfl
    have d1 := HTT.out.b2.cellv (v := .int .i64 D1) 1 rfl
    have d2 := HTT.out.b2.cellv (v := .int .i64 D2) 2 rfl
    have d3 := HTT.out.b2.cellv (v := .int .i64 D3) 3 rfl
    have d4 := HTT.out.b2.cellv (v := .slice bL nn dL) 4 rfl
    have d5 := HTT.out.b2.cellv (v := .slice bS mm dS) 5 rfl
    go_upto_region 8 with fail
    go_cut [93] from 48 to 93 (fun c wx => c = .bool false ∧ wx = w5)
    case first =>
      by_cases h0 : x0 = 0
      · have q0 : (x0 != 0) = false := by rw [h0]; rfl
        clear h0
        by_cases h1 : x1 = 0
        · have q1 : (x1 != 0) = false := by rw [h1]; rfl
          clear h1
          by_cases h2 : x2 = 0
          · have q2 : (x2 != 0) = false := by rw [h2]; rfl
            clear h2
            by_cases h3 : x3 = 0
            · have q3 : (x3 != 0) = false := by rw [h3]; rfl
              clear h3
              go_wp2_with fail
              go_meet
              exact ⟨rfl, rfl⟩
            · have q3 : (x3 != 0) = true := bne_iff_ne.2 h3
              have p3 : (D3 != x3) = false := by rw [HD3.out h3]; simp
              clear h3
              go_wp2_with fail
              go_meet
              exact ⟨rfl, rfl⟩
          · have q2 : (x2 != 0) = true := bne_iff_ne.2 h2
            have p2 : (D2 != x2) = false := by rw [HD2.out h2]; simp
            clear h2
            by_cases h3 : x3 = 0
            · have q3 : (x3 != 0) = false := by rw [h3]; rfl
              clear h3
              go_wp2_with fail
              go_meet
              exact ⟨rfl, rfl⟩
            · have q3 : (x3 != 0) = true := bne_iff_ne.2 h3
              have p3 : (D3 != x3) = false := by rw [HD3.out h3]; simp
              clear h3
              go_wp2_with fail
              go_meet
              exact ⟨rfl, rfl⟩
        · have q1 : (x1 != 0) = true := bne_iff_ne.2 h1
          have p1 : (D1 != x1) = false := by rw [HD1.out h1]; simp
          clear h1
          by_cases h2 : x2 = 0
          · have q2 : (x2 != 0) = false := by rw [h2]; rfl
            clear h2
            by_cases h3 : x3 = 0
            · have q3 : (x3 != 0) = false := by rw [h3]; rfl
              clear h3
              go_wp2_with fail
              go_meet
              exact ⟨rfl, rfl⟩
            · have q3 : (x3 != 0) = true := bne_iff_ne.2 h3
              have p3 : (D3 != x3) = false := by rw [HD3.out h3]; simp
              clear h3
              go_wp2_with fail
              go_meet
              exact ⟨rfl, rfl⟩
          · have q2 : (x2 != 0) = true := bne_iff_ne.2 h2
            have p2 : (D2 != x2) = false := by rw [HD2.out h2]; simp
            clear h2
            by_cases h3 : x3 = 0
            · have q3 : (x3 != 0) = false := by rw [h3]; rfl
              clear h3
              go_wp2_with fail
              go_meet
              exact ⟨rfl, rfl⟩
            · have q3 : (x3 != 0) = true := bne_iff_ne.2 h3
              have p3 : (D3 != x3) = false := by rw [HD3.out h3]; simp
              clear h3
              go_wp2_with fail
              go_meet
              exact ⟨rfl, rfl⟩
      · have q0 : (x0 != 0) = true := bne_iff_ne.2 h0
        have p0 : (D0 != x0) = false := by rw [HD0.out h0]; simp
        clear h0
        by_cases h1 : x1 = 0
        · have q1 : (x1 != 0) = false := by rw [h1]; rfl
          clear h1
          by_cases h2 : x2 = 0
          · have q2 : (x2 != 0) = false := by rw [h2]; rfl
            clear h2
            by_cases h3 : x3 = 0
            · have q3 : (x3 != 0) = false := by rw [h3]; rfl
              clear h3
              go_wp2_with fail
              go_meet
              exact ⟨rfl, rfl⟩
            · have q3 : (x3 != 0) = true := bne_iff_ne.2 h3
              have p3 : (D3 != x3) = false := by rw [HD3.out h3]; simp
              clear h3
              go_wp2_with fail
              go_meet
              exact ⟨rfl, rfl⟩
          · have q2 : (x2 != 0) = true := bne_iff_ne.2 h2
            have p2 : (D2 != x2) = false := by rw [HD2.out h2]; simp
            clear h2
            by_cases h3 : x3 = 0
            · have q3 : (x3 != 0) = false := by rw [h3]; rfl
              clear h3
              go_wp2_with fail
              go_meet
              exact ⟨rfl, rfl⟩
            · have q3 : (x3 != 0) = true := bne_iff_ne.2 h3
              have p3 : (D3 != x3) = false := by rw [HD3.out h3]; simp
              clear h3
              go_wp2_with fail
              go_meet
              exact ⟨rfl, rfl⟩
        · have q1 : (x1 != 0) = true := bne_iff_ne.2 h1
          have p1 : (D1 != x1) = false := by rw [HD1.out h1]; simp
          clear h1
          by_cases h2 : x2 = 0
          · have q2 : (x2 != 0) = false := by rw [h2]; rfl
            clear h2
            by_cases h3 : x3 = 0
            · have q3 : (x3 != 0) = false := by rw [h3]; rfl
              clear h3
              go_wp2_with fail
              go_meet
              exact ⟨rfl, rfl⟩
            · have q3 : (x3 != 0) = true := bne_iff_ne.2 h3
              have p3 : (D3 != x3) = false := by rw [HD3.out h3]; simp
              clear h3
              go_wp2_with fail
              go_meet
              exact ⟨rfl, rfl⟩
          · have q2 : (x2 != 0) = true := bne_iff_ne.2 h2
            have p2 : (D2 != x2) = false := by rw [HD2.out h2]; simp
            clear h2
            by_cases h3 : x3 = 0
            · have q3 : (x3 != 0) = false := by rw [h3]; rfl
              clear h3
              go_wp2_with fail
              go_meet
              exact ⟨rfl, rfl⟩
            · have q3 : (x3 != 0) = true := bne_iff_ne.2 h3
              have p3 : (D3 != x3) = false := by rw [HD3.out h3]; simp
              clear h3
              go_wp2_with fail
              go_meet
              exact ⟨rfl, rfl⟩
    case rest =>
      obtain ⟨rfl, rfl⟩ := hcut
      have AE := alloc_below wc (.cells #[.int .i64 D0, .int .i64 D1, .int .i64 D2, .int .i64 D3, .slice bL nn dL, .slice bS mm dS] 25)
      have NE := Blk.new wc 25 #[.int .i64 D0, .int .i64 D1, .int .i64 D2, .int .i64 D3, .slice bL nn dL, .slice bS mm dS]
      have A2 : Tw gc gd #[.int .i64 x0, .int .i64 x1, .int .i64 x2, .int .i64 x3, .slice aL n cL, .slice aS m cS] #[.int .i64 D0, .int .i64 D1, .int .i64 D2, .int .i64 D3, .slice bL nn dL, .slice bS mm dS] (wc.alloc (.cells #[.int .i64 D0, .int .i64 D1, .int .i64 D2, .int .i64 D3, .slice bL nn dL, .slice bS mm dS] 25)) := HTT.out.kept (Kept.of_below AE (fun _ => False)) id
      go_upto_region 11 with fail
      clear c0 c1 c2 c3 c4 c5 d0 d1 d2 d3 d4 d5
      generalize wc.alloc _ = w6 at *
      obtain ⟨ge, hge⟩ : ∃ ge, ge = wc.heap.size := ⟨_, rfl⟩
      rw [← hge] at NE ⊢
      have hgd := HGD.out
      have hlt := HTT.out.b2.lt
      have hne1 : gc ≠ ge := by have := HGL.out; omega
      have hne2 : gd ≠ ge := by omega
      have HGE : Hd (w4.heap.size ≤ ge) := ⟨by omega⟩
      have DR : Below w6.heap.size w6 w6.drew := ⟨rfl, rfl, rfl, Nat.le_refl _, fun _ _ => rfl⟩
      have B0 : Below w4.heap.size w4 w6.drew := (hgd.2.1.trans (AE.mono hgd.2.1.size)).trans (DR.mono (Nat.le_trans hgd.2.1.size AE.size))
      have A0 := A2.kept (Kept.of_below DR (fun _ => False)) id
      have E0 := NE.kept (Kept.of_below DR (fun _ => False)) id
      refine AnyG.start (T := Tw gc gd #[.int .i64 x0, .int .i64 x1, .int .i64 x2, .int .i64 x3, .slice aL n cL, .slice aS m cS] #[.int .i64 D0, .int .i64 D1, .int .i64 D2, .int .i64 D3, .slice bL nn dL, .slice bS mm dS]) (U := fun _ => True) (j0 := 100) (by kernel_rfl) ?_
      clear DR AE NE A2 hge hlt hgd HTT
      generalize w6.drew = w0 at *
      refine AnyG.takeAt 0 95 (v := ?_) rfl rfl (by kernel_rfl) (by kernel_rfl) (by kernel_rfl) (by decide) (fun _ _ _ h => h) ⟨A0, fun _ => trivial⟩ (by rfl) ?_ ?_
      rotate_left
      · intro w hSw
        go_simp
        rfl
      simp only [List.setIfInBounds_toArray, List.set_cons_zero, List.set_cons_succ]
      refine AnyG.takeAt 1 96 (v := ?_) rfl rfl (by kernel_rfl) (by kernel_rfl) (by kernel_rfl) (by decide) (fun _ _ _ h => h) ⟨A0, fun _ => trivial⟩ (by rfl) ?_ ?_
      rotate_left
      · intro w hSw
        have s4 := hSw.b1.cellv (v := .int .i64 x0) 0 rfl
        go_simp
        rfl
      simp only [List.setIfInBounds_toArray, List.set_cons_zero, List.set_cons_succ]
      refine AnyG.takeAt 2 97 (v := ?_) rfl rfl (by kernel_rfl) (by kernel_rfl) (by kernel_rfl) (by decide) (fun _ _ _ h => h) ⟨A0, fun _ => trivial⟩ (by rfl) ?_ ?_
      rotate_left
      · intro w hSw
        go_simp
        rfl
      simp only [List.setIfInBounds_toArray, List.set_cons_zero, List.set_cons_succ]
      refine AnyG.takeAt 3 98 (v := ?_) rfl rfl (by kernel_rfl) (by kernel_rfl) (by kernel_rfl) (by decide) (fun _ _ _ h => h) ⟨A0, fun _ => trivial⟩ (by rfl) ?_ ?_
      rotate_left
      · intro w hSw
        have s4 := hSw.b1.cellv (v := .int .i64 x1) 1 rfl
        go_simp
        rfl
      simp only [List.setIfInBounds_toArray, List.set_cons_zero, List.set_cons_succ]
      refine AnyG.takeAt 4 99 (v := ?_) rfl rfl (by kernel_rfl) (by kernel_rfl) (by kernel_rfl) (by decide) (fun _ _ _ h => h) ⟨A0, fun _ => trivial⟩ (by rfl) ?_ ?_
      rotate_left
      · intro w hSw
        go_simp
        rfl
      simp only [List.setIfInBounds_toArray, List.set_cons_zero, List.set_cons_succ]
      refine AnyG.takeAt 5 100 (v := ?_) rfl rfl (by kernel_rfl) (by kernel_rfl) (by kernel_rfl) (by decide) (fun _ _ _ h => h) ⟨A0, fun _ => trivial⟩ (by rfl) ?_ ?_
      rotate_left
      · intro w hSw
        have s4 := hSw.b1.cellv (v := .int .i64 x2) 2 rfl
        go_simp
        rfl
      simp only [List.setIfInBounds_toArray, List.set_cons_zero, List.set_cons_succ]
      refine AnyG.takeAt 6 101 (v := ?_) rfl rfl (by kernel_rfl) (by kernel_rfl) (by kernel_rfl) (by decide) (fun _ _ _ h => h) ⟨A0, fun _ => trivial⟩ (by rfl) ?_ ?_
      rotate_left
      · intro w hSw
        go_simp
        rfl
      simp only [List.setIfInBounds_toArray, List.set_cons_zero, List.set_cons_succ]
      refine AnyG.takeAt 7 102 (v := ?_) rfl rfl (by kernel_rfl) (by kernel_rfl) (by kernel_rfl) (by decide) (fun _ _ _ h => h) ⟨A0, fun _ => trivial⟩ (by rfl) ?_ ?_
      rotate_left
      · intro w hSw
        have s4 := hSw.b1.cellv (v := .int .i64 x3) 3 rfl
        go_simp
        rfl
      simp only [List.setIfInBounds_toArray, List.set_cons_zero, List.set_cons_succ]
      refine AnyG.takeAt 8 103 (v := ?_) rfl rfl (by kernel_rfl) (by kernel_rfl) (by kernel_rfl) (by decide) (fun _ _ _ h => h) ⟨A0, fun _ => trivial⟩ (by rfl) ?_ ?_
      rotate_left
      · intro w hSw
        go_simp
        rfl
      simp only [List.setIfInBounds_toArray, List.set_cons_zero, List.set_cons_succ]
      have d := E0.cellv (v := .int .i64 D0) 0 rfl
      have f := E0.frozen 0
      refine AnyG.ready (rs := [9]) (by kernel_rfl) (by simp) ?_
      refine AllG.cons rfl (fun K hK => ?_) AllG.nil
      go_simp
      have As1 := A0.other (p := ⟨ge, 0, none⟩) hne1 hne2 (.int .i64 x0)
      have Bs1 := below_set B0 (p := ⟨ge, 0, none⟩) HGE.out (.int .i64 x0)
      have Es1 : Blk (w0.setCell ⟨ge, 0, none⟩ (.int .i64 x0)) ge 25 #[.int .i64 x0, .int .i64 D1, .int .i64 D2, .int .i64 D3, .slice bL nn dL, .slice bS mm dS] := E0.set 0 (.int .i64 x0)
      refine hK.out _ _ ⟨As1, fun _ => trivial⟩ ?_
      clear hK K d f A0 B0 E0
      generalize w0.setCell _ _ = ws1 at *
      refine AnyG.takeAt 10 104 (v := ?_) rfl rfl (by kernel_rfl) (by kernel_rfl) (by kernel_rfl) (by decide) (fun _ _ _ h => h) ⟨As1, fun _ => trivial⟩ (by rfl) ?_ ?_
      rotate_left
      · intro w hSw
        go_simp
        rfl
      simp only [List.setIfInBounds_toArray, List.set_cons_zero, List.set_cons_succ]
      have d := Es1.cellv (v := .int .i64 D1) 1 rfl
      have f := Es1.frozen 1
      refine AnyG.ready (rs := [11]) (by kernel_rfl) (by simp) ?_
      refine AllG.cons rfl (fun K hK => ?_) AllG.nil
      go_simp
      have As2 := As1.other (p := ⟨ge, 1, none⟩) hne1 hne2 (.int .i64 x1)
      have Bs2 := below_set Bs1 (p := ⟨ge, 1, none⟩) HGE.out (.int .i64 x1)
      have Es2 : Blk (ws1.setCell ⟨ge, 1, none⟩ (.int .i64 x1)) ge 25 #[.int .i64 x0, .int .i64 x1, .int .i64 D2, .int .i64 D3, .slice bL nn dL, .slice bS mm dS] := Es1.set 1 (.int .i64 x1)
      refine hK.out _ _ ⟨As2, fun _ => trivial⟩ ?_
      clear hK K d f As1 Bs1 Es1
      generalize ws1.setCell _ _ = ws2 at *
      refine AnyG.takeAt 12 105 (v := ?_) rfl rfl (by kernel_rfl) (by kernel_rfl) (by kernel_rfl) (by decide) (fun _ _ _ h => h) ⟨As2, fun _ => trivial⟩ (by rfl) ?_ ?_
      rotate_left
      · intro w hSw
        go_simp
        rfl
      simp only [List.setIfInBounds_toArray, List.set_cons_zero, List.set_cons_succ]
      have d := Es2.cellv (v := .int .i64 D2) 2 rfl
      have f := Es2.frozen 2
      refine AnyG.ready (rs := [13]) (by kernel_rfl) (by simp) ?_
      refine AllG.cons rfl (fun K hK => ?_) AllG.nil
      go_simp
      have As3 := As2.other (p := ⟨ge, 2, none⟩) hne1 hne2 (.int .i64 x2)
      have Bs3 := below_set Bs2 (p := ⟨ge, 2, none⟩) HGE.out (.int .i64 x2)
      have Es3 : Blk (ws2.setCell ⟨ge, 2, none⟩ (.int .i64 x2)) ge 25 #[.int .i64 x0, .int .i64 x1, .int .i64 x2, .int .i64 D3, .slice bL nn dL, .slice bS mm dS] := Es2.set 2 (.int .i64 x2)
      refine hK.out _ _ ⟨As3, fun _ => trivial⟩ ?_
      clear hK K d f As2 Bs2 Es2
      generalize ws2.setCell _ _ = ws3 at *
      refine AnyG.takeAt 14 106 (v := ?_) rfl rfl (by kernel_rfl) (by kernel_rfl) (by kernel_rfl) (by decide) (fun _ _ _ h => h) ⟨As3, fun _ => trivial⟩ (by rfl) ?_ ?_
      rotate_left
      · intro w hSw
        go_simp
        rfl
      simp only [List.setIfInBounds_toArray, List.set_cons_zero, List.set_cons_succ]
      have d := Es3.cellv (v := .int .i64 D3) 3 rfl
      have f := Es3.frozen 3
      refine AnyG.ready (rs := [15]) (by kernel_rfl) (by simp) ?_
      refine AllG.cons rfl (fun K hK => ?_) AllG.nil
      go_simp
      have As4 := As3.other (p := ⟨ge, 3, none⟩) hne1 hne2 (.int .i64 x3)
      have Bs4 := below_set Bs3 (p := ⟨ge, 3, none⟩) HGE.out (.int .i64 x3)
      have Es4 : Blk (ws3.setCell ⟨ge, 3, none⟩ (.int .i64 x3)) ge 25 #[.int .i64 x0, .int .i64 x1, .int .i64 x2, .int .i64 x3, .slice bL nn dL, .slice bS mm dS] := Es3.set 3 (.int .i64 x3)
      refine hK.out _ _ ⟨As4, fun _ => trivial⟩ ?_
      clear hK K d f As3 Bs3 Es3
      generalize ws3.setCell _ _ = ws4 at *
      refine AnyG.done (by kernel_rfl) ?_ _
      go_upto_region 12 with fail
      have DR1 : Below ws4.heap.size ws4 ws4.drew := ⟨rfl, rfl, rfl, Nat.le_refl _, fun _ _ => rfl⟩
      have Bd1 : Below w4.heap.size w4 ws4.drew := Bs4.trans (DR1.mono Bs4.size)
      have Ad1 := As4.kept (Kept.of_below DR1 (fun _ => False)) id
      have Ed1 := Es4.kept (Kept.of_below DR1 (fun _ => False)) id
      refine AnyG.start (T := Tw gc gd #[.int .i64 x0, .int .i64 x1, .int .i64 x2, .int .i64 x3, .slice aL n cL, .slice aS m cS] #[.int .i64 D0, .int .i64 D1, .int .i64 D2, .int .i64 D3, .slice bL nn dL, .slice bS mm dS]) (U := fun _ => True) (j0 := 100) (by kernel_rfl) ?_
      clear DR1 As4 Bs4 Es4
      generalize ws4.drew = wd1 at *
      refine AnyG.takeAt 0 107 (v := ?_) rfl rfl (by kernel_rfl) (by kernel_rfl) (by kernel_rfl) (by decide) (fun _ _ _ h => h) ⟨Ad1, fun _ => trivial⟩ (by rfl) ?_ ?_
      rotate_left
      · intro w hSw
        go_simp
        rfl
      simp only [List.setIfInBounds_toArray, List.set_cons_zero, List.set_cons_succ]
      refine AnyG.takeAt 1 108 (v := ?_) rfl rfl (by kernel_rfl) (by kernel_rfl) (by kernel_rfl) (by decide) (fun _ _ _ h => h) ⟨Ad1, fun _ => trivial⟩ (by rfl) ?_ ?_
      rotate_left
      · intro w hSw
        have s4 := hSw.b2.cellv (v := .slice bL nn dL) 4 rfl
        go_simp
        rfl
      simp only [List.setIfInBounds_toArray, List.set_cons_zero, List.set_cons_succ]
      refine AnyG.takeAt 2 109 (v := ?_) rfl rfl (by kernel_rfl) (by kernel_rfl) (by kernel_rfl) (by decide) (fun _ _ _ h => h) ⟨Ad1, fun _ => trivial⟩ (by rfl) ?_ ?_
      rotate_left
      · intro w hSw
        go_simp
        rfl
      simp only [List.setIfInBounds_toArray, List.set_cons_zero, List.set_cons_succ]
      refine AnyG.takeAt 3 110 (v := ?_) rfl rfl (by kernel_rfl) (by kernel_rfl) (by kernel_rfl) (by decide) (fun _ _ _ h => h) ⟨Ad1, fun _ => trivial⟩ (by rfl) ?_ ?_
      rotate_left
      · intro w hSw
        have s4 := hSw.b1.cellv (v := .slice aL n cL) 4 rfl
        go_simp
        rfl
      simp only [List.setIfInBounds_toArray, List.set_cons_zero, List.set_cons_succ]
      refine AnyG.takeAt 4 111 (v := ?_) rfl rfl (by kernel_rfl) (by kernel_rfl) (by kernel_rfl) (by decide) (fun _ _ _ h => h) ⟨Ad1, fun _ => trivial⟩ (by rfl) ?_ ?_
      rotate_left
      · intro w hSw
        go_simp
        rfl
      simp only [List.setIfInBounds_toArray, List.set_cons_zero, List.set_cons_succ]
      refine AnyG.takeAt 5 112 (v := ?_) rfl rfl (by kernel_rfl) (by kernel_rfl) (by kernel_rfl) (by decide) (fun _ _ _ h => h) ⟨Ad1, fun _ => trivial⟩ (by rfl) ?_ ?_
      rotate_left
      · intro w hSw
        go_simp
        rw [if_pos (Nat.le_trans l1a k1)]
      simp only [List.setIfInBounds_toArray, List.set_cons_zero, List.set_cons_succ]
      refine AnyG.takeAt 6 113 (v := ?_) rfl rfl (by kernel_rfl) (by kernel_rfl) (by kernel_rfl) (by decide) (fun _ _ _ h => h) ⟨Ad1, fun _ => trivial⟩ (by rfl) ?_ ?_
      rotate_left
      · intro w hSw
        go_simp
        rfl
      simp only [List.setIfInBounds_toArray, List.set_cons_zero, List.set_cons_succ]
      refine AnyG.takeAt 7 114 (v := ?_) rfl rfl (by kernel_rfl) (by kernel_rfl) (by kernel_rfl) (by decide) (fun _ _ _ h => h) ⟨Ad1, fun _ => trivial⟩ (by rfl) ?_ ?_
      rotate_left
      · intro w hSw
        have s4 := hSw.b2.cellv (v := .slice bS mm dS) 5 rfl
        go_simp
        rfl
      simp only [List.setIfInBounds_toArray, List.set_cons_zero, List.set_cons_succ]
      refine AnyG.takeAt 8 115 (v := ?_) rfl rfl (by kernel_rfl) (by kernel_rfl) (by kernel_rfl) (by decide) (fun _ _ _ h => h) ⟨Ad1, fun _ => trivial⟩ (by rfl) ?_ ?_
      rotate_left
      · intro w hSw
        go_simp
        rfl
      simp only [List.setIfInBounds_toArray, List.set_cons_zero, List.set_cons_succ]
      refine AnyG.takeAt 9 116 (v := ?_) rfl rfl (by kernel_rfl) (by kernel_rfl) (by kernel_rfl) (by decide) (fun _ _ _ h => h) ⟨Ad1, fun _ => trivial⟩ (by rfl) ?_ ?_
      rotate_left
      · intro w hSw
        have s4 := hSw.b1.cellv (v := .slice aS m cS) 5 rfl
        go_simp
        rfl
      simp only [List.setIfInBounds_toArray, List.set_cons_zero, List.set_cons_succ]
      refine AnyG.takeAt 10 117 (v := ?_) rfl rfl (by kernel_rfl) (by kernel_rfl) (by kernel_rfl) (by decide) (fun _ _ _ h => h) ⟨Ad1, fun _ => trivial⟩ (by rfl) ?_ ?_
      rotate_left
      · intro w hSw
        go_simp
        rfl
      simp only [List.setIfInBounds_toArray, List.set_cons_zero, List.set_cons_succ]
      refine AnyG.takeAt 11 118 (v := ?_) rfl rfl (by kernel_rfl) (by kernel_rfl) (by kernel_rfl) (by decide) (fun _ _ _ h => h) ⟨Ad1, fun _ => trivial⟩ (by rfl) ?_ ?_
      rotate_left
      · intro w hSw
        go_simp
        rw [if_pos (Nat.le_trans l2a k2)]
      simp only [List.setIfInBounds_toArray, List.set_cons_zero, List.set_cons_succ]
      refine AnyG.takeAt 12 119 (v := ?_) rfl rfl (by kernel_rfl) (by kernel_rfl) (by kernel_rfl) (by decide) (fun _ _ _ h => h) ⟨Ad1, fun _ => trivial⟩ (by rfl) ?_ ?_
      rotate_left
      · intro w hSw
        go_simp
        rfl
      simp only [List.setIfInBounds_toArray, List.set_cons_zero, List.set_cons_succ]
      have d := Ed1.cellv (v := .slice bL nn dL) 4 rfl
      have f := Ed1.frozen 4
      refine AnyG.ready (rs := [13]) (by kernel_rfl) (by simp) ?_
      refine AllG.cons rfl (fun K hK => ?_) AllG.nil
      go_simp
      have As5 := Ad1.other (p := ⟨ge, 4, none⟩) hne1 hne2 (.slice bL n dL)
      have Bs5 := below_set Bd1 (p := ⟨ge, 4, none⟩) HGE.out (.slice bL n dL)
      have Es5 : Blk (wd1.setCell ⟨ge, 4, none⟩ (.slice bL n dL)) ge 25 #[.int .i64 x0, .int .i64 x1, .int .i64 x2, .int .i64 x3, .slice bL n dL, .slice bS mm dS] := Ed1.set 4 (.slice bL n dL)
      refine hK.out _ _ ⟨As5, fun _ => trivial⟩ ?_
      clear hK K d f Ad1 Bd1 Ed1
      generalize wd1.setCell _ _ = ws5 at *
      refine AnyG.takeAt 14 120 (v := ?_) rfl rfl (by kernel_rfl) (by kernel_rfl) (by kernel_rfl) (by decide) (fun _ _ _ h => h) ⟨As5, fun _ => trivial⟩ (by rfl) ?_ ?_
      rotate_left
      · intro w hSw
        go_simp
        rfl
      simp only [List.setIfInBounds_toArray, List.set_cons_zero, List.set_cons_succ]
      have d := Es5.cellv (v := .slice bS mm dS) 5 rfl
      have f := Es5.frozen 5
      refine AnyG.ready (rs := [15]) (by kernel_rfl) (by simp) ?_
      refine AllG.cons rfl (fun K hK => ?_) AllG.nil
      go_simp
      have As6 := As5.other (p := ⟨ge, 5, none⟩) hne1 hne2 (.slice bS m dS)
      have Bs6 := below_set Bs5 (p := ⟨ge, 5, none⟩) HGE.out (.slice bS m dS)
      have Es6 : Blk (ws5.setCell ⟨ge, 5, none⟩ (.slice bS m dS)) ge 25 #[.int .i64 x0, .int .i64 x1, .int .i64 x2, .int .i64 x3, .slice bL n dL, .slice bS m dS] := Es5.set 5 (.slice bS m dS)
      refine hK.out _ _ ⟨As6, fun _ => trivial⟩ ?_
      clear hK K d f As5 Bs5 Es5
      generalize ws5.setCell _ _ = ws6 at *
      refine AnyG.done (by kernel_rfl) ?_ _
      go_upto_region 13 with fail
      have DR2 : Below ws6.heap.size ws6 ws6.drew := ⟨rfl, rfl, rfl, Nat.le_refl _, fun _ _ => rfl⟩
      have Bd2 : Below w4.heap.size w4 ws6.drew := Bs6.trans (DR2.mono Bs6.size)
      have Ad2 := As6.kept (Kept.of_below DR2 (fun _ => False)) id
      have Ed2 := Es6.kept (Kept.of_below DR2 (fun _ => False)) id
      have At2 : Th gc gd ge #[.int .i64 x0, .int .i64 x1, .int .i64 x2, .int .i64 x3, .slice aL n cL, .slice aS m cS] #[.int .i64 D0, .int .i64 D1, .int .i64 D2, .int .i64 D3, .slice bL nn dL, .slice bS mm dS] #[.int .i64 x0, .int .i64 x1, .int .i64 x2, .int .i64 x3, .slice bL n dL, .slice bS m dS] ws6.drew := ⟨Ad2, Ed2⟩
      refine AnyG.start (T := Th gc gd ge #[.int .i64 x0, .int .i64 x1, .int .i64 x2, .int .i64 x3, .slice aL n cL, .slice aS m cS] #[.int .i64 D0, .int .i64 D1, .int .i64 D2, .int .i64 D3, .slice bL nn dL, .slice bS mm dS] #[.int .i64 x0, .int .i64 x1, .int .i64 x2, .int .i64 x3, .slice bL n dL, .slice bS m dS]) (U := fun _ => True) (j0 := 100) (by kernel_rfl) ?_
      clear DR2 As6 Bs6 Es6 Ad2 Ed2
      generalize ws6.drew = wd2 at *
      refine AnyG.takeAt 0 121 (v := ?_) rfl rfl (by kernel_rfl) (by kernel_rfl) (by kernel_rfl) (by decide) (fun _ _ _ h => h) ⟨At2, fun _ => trivial⟩ (by rfl) ?_ ?_
      rotate_left
      · intro w hSw
        have s10 := hSw.e.cellv (v := .int .i64 x0) 0 rfl
        have s11 := hSw.e.cellv (v := .int .i64 x1) 1 rfl
        have s12 := hSw.e.cellv (v := .int .i64 x2) 2 rfl
        have s13 := hSw.e.cellv (v := .int .i64 x3) 3 rfl
        have s14 := hSw.e.cellv (v := .slice bL n dL) 4 rfl
        have s15 := hSw.e.cellv (v := .slice bS m dS) 5 rfl
        go_simp
        rfl
      simp only [List.setIfInBounds_toArray, List.set_cons_zero, List.set_cons_succ]
      refine AnyG.takeAt 1 122 (v := ?_) rfl rfl (by kernel_rfl) (by kernel_rfl) (by kernel_rfl) (by decide) (fun _ _ _ h => h) ⟨At2, fun _ => trivial⟩ (by rfl) ?_ ?_
      rotate_left
      · intro w hSw
        have s10 := hSw.t.b1.cellv (v := .int .i64 x0) 0 rfl
        have s11 := hSw.t.b1.cellv (v := .int .i64 x1) 1 rfl
        have s12 := hSw.t.b1.cellv (v := .int .i64 x2) 2 rfl
        have s13 := hSw.t.b1.cellv (v := .int .i64 x3) 3 rfl
        have s14 := hSw.t.b1.cellv (v := .slice aL n cL) 4 rfl
        have s15 := hSw.t.b1.cellv (v := .slice aS m cS) 5 rfl
        go_simp
        rfl
      simp only [List.setIfInBounds_toArray, List.set_cons_zero, List.set_cons_succ]
      refine AnyG.ready (rs := [2]) (by kernel_rfl) (by simp) ?_
      refine AllG.cons rfl (fun K hK => ?_) AllG.nil
      go_simp
      refine (same_cfr (HER.out wd2 Bd2) (HV.out wd2 (HGD.out.2.2.trans (Bd2.mono HGD.out.2.2.size)))).mono ?_
      rintro e wk1 ⟨rfl, b1⟩
      have Ak1 := At2.kept (Kept.of_below b1 (fun _ => False)) id
      have Bk1 : Below w4.heap.size w4 wk1 := Bd2.trans (b1.mono Bd2.size)
      refine hK.out _ _ ⟨Ak1, fun _ => trivial⟩ ?_
      clear hK K b1 At2 Bd2
      refine AnyG.takeAt 3 124 (v := ?_) rfl rfl (by kernel_rfl) (by kernel_rfl) (by kernel_rfl) (by decide) (fun _ _ _ h => h) ⟨Ak1, fun _ => trivial⟩ (by rfl) ?_ ?_
      rotate_left
      · intro w hSw
        go_simp
        rfl
      simp only [List.setIfInBounds_toArray, List.set_cons_zero, List.set_cons_succ]
      refine AnyG.takeAt 4 125 (v := ?_) rfl rfl (by kernel_rfl) (by kernel_rfl) (by kernel_rfl) (by decide) (fun _ _ _ h => h) ⟨Ak1, fun _ => trivial⟩ (by rfl) ?_ ?_
      rotate_left
      · intro w hSw
        have s10 := hSw.t.b2.cellv (v := .int .i64 D0) 0 rfl
        have s11 := hSw.t.b2.cellv (v := .int .i64 D1) 1 rfl
        have s12 := hSw.t.b2.cellv (v := .int .i64 D2) 2 rfl
        have s13 := hSw.t.b2.cellv (v := .int .i64 D3) 3 rfl
        have s14 := hSw.t.b2.cellv (v := .slice bL nn dL) 4 rfl
        have s15 := hSw.t.b2.cellv (v := .slice bS mm dS) 5 rfl
        go_simp
        rfl
      simp only [List.setIfInBounds_toArray, List.set_cons_zero, List.set_cons_succ]
      refine AnyG.takeAt 6 127 (v := ?_) rfl rfl (by kernel_rfl) (by kernel_rfl) (by kernel_rfl) (by decide) (fun _ _ _ h => h) ⟨Ak1, fun _ => trivial⟩ (by rfl) ?_ ?_
      rotate_left
      · intro w hSw
        have s10 := hSw.t.b2.cellv (v := .int .i64 D0) 0 rfl
        have s11 := hSw.t.b2.cellv (v := .int .i64 D1) 1 rfl
        have s12 := hSw.t.b2.cellv (v := .int .i64 D2) 2 rfl
        have s13 := hSw.t.b2.cellv (v := .int .i64 D3) 3 rfl
        have s14 := hSw.t.b2.cellv (v := .slice bL nn dL) 4 rfl
        have s15 := hSw.t.b2.cellv (v := .slice bS mm dS) 5 rfl
        go_simp
        rfl
      simp only [List.setIfInBounds_toArray, List.set_cons_zero, List.set_cons_succ]
      refine AnyG.ready (rs := [5]) (by kernel_rfl) (by simp) ?_
      refine AllG.cons rfl (fun K hK => ?_) AllG.nil
      go_simp
      refine (fill_ok _ _ wk1 (HDR.out wk1 Bk1) HI.out.2.1).mono ?_
      rintro e wk2 ⟨⟨v2, rfl, h2⟩, b2⟩
      rw [HI.out.1] at h2
      replace h2 := h2.read HI.out.2.2
      have Ak2 := Ak1.kept (Kept.of_below b2 (fun _ => False)) id
      have Bk2 : Below w4.heap.size w4 wk2 := Bk1.trans (b2.mono Bk1.size)
      have SC := same_cfr h2 (HDR.out wk2 Bk2)
      refine hK.out _ _ ⟨Ak2, fun _ => trivial⟩ ?_
      clear hK K b2 Ak1 Bk1 h2
      refine AnyG.ready (rs := [7]) (by kernel_rfl) (by simp) ?_
      refine AllG.cons rfl (fun K hK => ?_) AllG.nil
      go_simp
      refine (SC).mono ?_
      rintro e wk3 ⟨rfl, b3⟩
      have Ak3 := Ak2.kept (Kept.of_below b3 (fun _ => False)) id
      have Bk3 : Below w4.heap.size w4 wk3 := Bk2.trans (b3.mono Bk2.size)
      refine hK.out _ _ ⟨Ak3, fun _ => trivial⟩ ?_
      clear hK K b3 Ak2 Bk2
      refine AnyG.takeAt 8 129 (v := ?_) rfl rfl (by kernel_rfl) (by kernel_rfl) (by kernel_rfl) (by decide) (fun _ _ _ h => h) ⟨Ak3, fun _ => trivial⟩ (by rfl) ?_ ?_
      rotate_left
      · intro w hSw
        go_simp
        rfl
      simp only [List.setIfInBounds_toArray, List.set_cons_zero, List.set_cons_succ]
      refine AnyG.takeAt 9 130 (v := ?_) rfl rfl (by kernel_rfl) (by kernel_rfl) (by kernel_rfl) (by decide) (fun _ _ _ h => h) ⟨Ak3, fun _ => trivial⟩ (by rfl) ?_ ?_
      rotate_left
      · intro w hSw
        go_simp
        rfl
      simp only [List.setIfInBounds_toArray, List.set_cons_zero, List.set_cons_succ]
      refine AnyG.takeAt 10 131 (v := ?_) rfl rfl (by kernel_rfl) (by kernel_rfl) (by kernel_rfl) (by decide) (fun _ _ _ h => h) ⟨Ak3, fun _ => trivial⟩ (by rfl) ?_ ?_
      rotate_left
      · intro w hSw
        go_simp
        rfl
      simp only [List.setIfInBounds_toArray, List.set_cons_zero, List.set_cons_succ]
      refine AnyG.takeAt 11 132 (v := ?_) rfl rfl (by kernel_rfl) (by kernel_rfl) (by kernel_rfl) (by decide) (fun _ _ _ h => h) ⟨Ak3, fun _ => trivial⟩ (by rfl) ?_ ?_
      rotate_left
      · intro w hSw
        have s4 := hSw.t.b2.cellv (v := .int .i64 D0) 0 rfl
        go_simp
        rfl
      simp only [List.setIfInBounds_toArray, List.set_cons_zero, List.set_cons_succ]
      refine AnyG.takeAt 12 133 (v := ?_) rfl rfl (by kernel_rfl) (by kernel_rfl) (by kernel_rfl) (by decide) (fun _ _ _ h => h) ⟨Ak3, fun _ => trivial⟩ (by rfl) ?_ ?_
      rotate_left
      · intro w hSw
        have s4 := HZ0.out
        go_simp
        rfl
      simp only [List.setIfInBounds_toArray, List.set_cons_zero, List.set_cons_succ]
      refine AnyG.takeAt 13 134 (v := ?_) rfl rfl (by kernel_rfl) (by kernel_rfl) (by kernel_rfl) (by decide) (fun _ _ _ h => h) ⟨Ak3, fun _ => trivial⟩ (by rfl) ?_ ?_
      rotate_left
      · intro w hSw
        go_simp
        rfl
      simp only [List.setIfInBounds_toArray, List.set_cons_zero, List.set_cons_succ]
      refine AnyG.takeAt 14 135 (v := ?_) rfl rfl (by kernel_rfl) (by kernel_rfl) (by kernel_rfl) (by decide) (fun _ _ _ h => h) ⟨Ak3, fun _ => trivial⟩ (by rfl) ?_ ?_
      rotate_left
      · intro w hSw
        go_simp
        rfl
      simp only [List.setIfInBounds_toArray, List.set_cons_zero, List.set_cons_succ]
      refine AnyG.takeAt 15 136 (v := ?_) rfl rfl (by kernel_rfl) (by kernel_rfl) (by kernel_rfl) (by decide) (fun _ _ _ h => h) ⟨Ak3, fun _ => trivial⟩ (by rfl) ?_ ?_
      rotate_left
      · intro w hSw
        go_simp
        rfl
      simp only [List.setIfInBounds_toArray, List.set_cons_zero, List.set_cons_succ]
      refine AnyG.takeAt 16 137 (v := ?_) rfl rfl (by kernel_rfl) (by kernel_rfl) (by kernel_rfl) (by decide) (fun _ _ _ h => h) ⟨Ak3, fun _ => trivial⟩ (by rfl) ?_ ?_
      rotate_left
      · intro w hSw
        have s4 := hSw.t.b2.cellv (v := .int .i64 D1) 1 rfl
        go_simp
        rfl
      simp only [List.setIfInBounds_toArray, List.set_cons_zero, List.set_cons_succ]
      refine AnyG.takeAt 17 138 (v := ?_) rfl rfl (by kernel_rfl) (by kernel_rfl) (by kernel_rfl) (by decide) (fun _ _ _ h => h) ⟨Ak3, fun _ => trivial⟩ (by rfl) ?_ ?_
      rotate_left
      · intro w hSw
        have s4 := HZ1.out
        go_simp
        rfl
      simp only [List.setIfInBounds_toArray, List.set_cons_zero, List.set_cons_succ]
      refine AnyG.takeAt 18 139 (v := ?_) rfl rfl (by kernel_rfl) (by kernel_rfl) (by kernel_rfl) (by decide) (fun _ _ _ h => h) ⟨Ak3, fun _ => trivial⟩ (by rfl) ?_ ?_
      rotate_left
      · intro w hSw
        go_simp
        rfl
      simp only [List.setIfInBounds_toArray, List.set_cons_zero, List.set_cons_succ]
      refine AnyG.takeAt 19 140 (v := ?_) rfl rfl (by kernel_rfl) (by kernel_rfl) (by kernel_rfl) (by decide) (fun _ _ _ h => h) ⟨Ak3, fun _ => trivial⟩ (by rfl) ?_ ?_
      rotate_left
      · intro w hSw
        go_simp
        rfl
      simp only [List.setIfInBounds_toArray, List.set_cons_zero, List.set_cons_succ]
      refine AnyG.takeAt 20 141 (v := ?_) rfl rfl (by kernel_rfl) (by kernel_rfl) (by kernel_rfl) (by decide) (fun _ _ _ h => h) ⟨Ak3, fun _ => trivial⟩ (by rfl) ?_ ?_
      rotate_left
      · intro w hSw
        go_simp
        rfl
      simp only [List.setIfInBounds_toArray, List.set_cons_zero, List.set_cons_succ]
      refine AnyG.takeAt 21 142 (v := ?_) rfl rfl (by kernel_rfl) (by kernel_rfl) (by kernel_rfl) (by decide) (fun _ _ _ h => h) ⟨Ak3, fun _ => trivial⟩ (by rfl) ?_ ?_
      rotate_left
      · intro w hSw
        have s4 := hSw.t.b2.cellv (v := .int .i64 D2) 2 rfl
        go_simp
        rfl
      simp only [List.setIfInBounds_toArray, List.set_cons_zero, List.set_cons_succ]
      refine AnyG.takeAt 22 143 (v := ?_) rfl rfl (by kernel_rfl) (by kernel_rfl) (by kernel_rfl) (by decide) (fun _ _ _ h => h) ⟨Ak3, fun _ => trivial⟩ (by rfl) ?_ ?_
      rotate_left
      · intro w hSw
        have s4 := HZ2.out
        go_simp
        rfl
      simp only [List.setIfInBounds_toArray, List.set_cons_zero, List.set_cons_succ]
      refine AnyG.takeAt 23 144 (v := ?_) rfl rfl (by kernel_rfl) (by kernel_rfl) (by kernel_rfl) (by decide) (fun _ _ _ h => h) ⟨Ak3, fun _ => trivial⟩ (by rfl) ?_ ?_
      rotate_left
      · intro w hSw
        go_simp
        rfl
      simp only [List.setIfInBounds_toArray, List.set_cons_zero, List.set_cons_succ]
      refine AnyG.takeAt 24 145 (v := ?_) rfl rfl (by kernel_rfl) (by kernel_rfl) (by kernel_rfl) (by decide) (fun _ _ _ h => h) ⟨Ak3, fun _ => trivial⟩ (by rfl) ?_ ?_
      rotate_left
      · intro w hSw
        go_simp
        rfl
      simp only [List.setIfInBounds_toArray, List.set_cons_zero, List.set_cons_succ]
      refine AnyG.takeAt 25 146 (v := ?_) rfl rfl (by kernel_rfl) (by kernel_rfl) (by kernel_rfl) (by decide) (fun _ _ _ h => h) ⟨Ak3, fun _ => trivial⟩ (by rfl) ?_ ?_
      rotate_left
      · intro w hSw
        go_simp
        rfl
      simp only [List.setIfInBounds_toArray, List.set_cons_zero, List.set_cons_succ]
      refine AnyG.takeAt 26 147 (v := ?_) rfl rfl (by kernel_rfl) (by kernel_rfl) (by kernel_rfl) (by decide) (fun _ _ _ h => h) ⟨Ak3, fun _ => trivial⟩ (by rfl) ?_ ?_
      rotate_left
      · intro w hSw
        have s4 := hSw.t.b2.cellv (v := .int .i64 D3) 3 rfl
        go_simp
        rfl
      simp only [List.setIfInBounds_toArray, List.set_cons_zero, List.set_cons_succ]
      refine AnyG.takeAt 27 148 (v := ?_) rfl rfl (by kernel_rfl) (by kernel_rfl) (by kernel_rfl) (by decide) (fun _ _ _ h => h) ⟨Ak3, fun _ => trivial⟩ (by rfl) ?_ ?_
      rotate_left
      · intro w hSw
        have s4 := HZ3.out
        go_simp
        rfl
      simp only [List.setIfInBounds_toArray, List.set_cons_zero, List.set_cons_succ]
      refine AnyG.takeAt 28 149 (v := ?_) rfl rfl (by kernel_rfl) (by kernel_rfl) (by kernel_rfl) (by decide) (fun _ _ _ h => h) ⟨Ak3, fun _ => trivial⟩ (by rfl) ?_ ?_
      rotate_left
      · intro w hSw
        go_simp
        rfl
      simp only [List.setIfInBounds_toArray, List.set_cons_zero, List.set_cons_succ]
      refine AnyG.takeAt 29 2 (v := ?_) rfl rfl (by kernel_rfl) (by kernel_rfl) (by kernel_rfl) (by decide) (fun _ _ _ h => h) ⟨Ak3, fun _ => trivial⟩ (by rfl) ?_ ?_
      rotate_left
      · intro w hSw
        go_simp
        rfl
      simp only [List.setIfInBounds_toArray, List.set_cons_zero, List.set_cons_succ]
      refine AnyG.done (by kernel_rfl) ?_ _
      go_wp2_with fail
      go_ret
      exact ⟨rfl, HGD.out.2.2.trans (Bk3.mono HGD.out.2.2.size)⟩
end Go.Proofs.Ytikofndmfbeliaa
