/-
  'PrintPart' answers true. Condition: the configuration lies in memory; the library's table of powers.
-/
import Derived.Test.YtfollcabppkihaaDoorCpy
import Derived.Test.YtfollcabppkihaaDoorPaM
import Derived.Test.YtfollcabppkihaaDoorSmA
import Derived.Test.YtfollcabppkihaaDoorPrO
namespace Go.Proofs.YtfollcabppkihaaDoor
open Go.RowKit Go.Lib

theorem joinB_le {L : List ByteArray} (h : joinB L ≠ mk []) : L.length ≤ 8 := by
  unfold joinB at h
  by_cases h0 : L = []
  · subst h0; decide
  · rw [if_neg h0] at h
    by_cases h1 : L = [mk [42]]
    · subst h1; decide
    · rw [if_neg h1] at h
      by_cases h2 : good L = true
      · exact (good_iff.1 h2).1
      · rw [if_neg h2] at h
        exact absurd rfl h
theorem formed_bnd {C : Cf} (h : Formed C) : Bnd 900 C := by
  refine ⟨Nat.le_trans h.nl (by decide), Nat.le_trans h.ns (by decide), fun s hs => ?_⟩
  have h1 := h.sc s hs
  unfold scOk rlsOk at h1
  simp only [Bool.and_eq_true, decide_eq_true_eq, List.all_eq_true] at h1
  obtain ⟨-, -, -, -, h2, h3⟩ := h1
  refine ⟨Nat.le_trans h2 (by decide), fun r hr => ?_⟩
  obtain ⟨j0, j1, j2, j3, j4⟩ := rlOk_iff.1 (h3 r hr)
  have l0 := joinB_le j0
  have l1 := joinB_le j1
  have l2 := joinB_le j2
  have l3 := joinB_le j3
  have l4 := joinB_le j4
  exact ⟨by omega, by omega, by omega, by omega, by omega⟩
theorem CfR.part {w : World} {C : Cf} {y0 y1 y2 y3 : Value} {aL aS : Option Addr} {n m cL cS : Nat} (h : CfR w (.agg #[y0, y1, y2, y3, .slice aL n cL, .slice aS m cS]) C) {l s : Nat} (hl : l ≤ C.levels.length) (hs : s ≤ C.schemas.length) :
    CfR w (.agg #[y0, y1, y2, y3, .slice aL l cL, .slice aS s cS]) (partC C l s) := by
  obtain ⟨aL', cL', aS', cS', V, e, h1, h2, h3, h4, h5, h6⟩ := h.ex
  have hz := h.sz
  have hm := h.nm
  injection e with e
  simp only [Array.mk.injEq, List.cons.injEq, Value.slice.injEq, and_true] at e
  obtain ⟨rfl, rfl, rfl, rfl, ⟨rfl, -, rfl⟩, rfl, -, rfl⟩ := e
  have e1 : (C.levels.take l).length = l := by rw [List.length_take]; omega
  have e2 : (C.schemas.take s).length = s := by rw [List.length_take]; omega
  refine ⟨?_, ?_, aL, cL, aS, cS, V.take s, ?_, ?_, ?_, h3.first l, ?_, h5.first s, fun k hk hk' => ?_⟩
  · show (C.levels.take l).length ≤ _ ∧ (C.schemas.take s).length ≤ _
    rw [e1, e2]; omega
  · exact ⟨fun x hx => hm.1 x (List.mem_of_mem_take hx), fun x hx => hm.2 x (List.mem_of_mem_take hx)⟩
  · show _ = Value.agg #[_, _, _, _, .slice aL (C.levels.take l).length cL, .slice aS (C.schemas.take s).length cS]
    rw [e1, e2]; rfl
  · show (C.levels.take l).length ≤ _; rw [e1]; omega
  · show (C.schemas.take s).length ≤ _; rw [e2]; omega
  · show _ = (C.schemas.take s).length; rw [e2, List.length_take]; omega
  · have hk1 : k < (C.schemas.take s).length := hk
    rw [e2] at hk1
    have hkS : k < C.schemas.length := by omega
    have e3 : (C.schemas.take s)[k]'(by rw [e2]; exact hk1) = C.schemas[k] := List.getElem_take ..
    have e4 : (V.take s)[k] = V[k]'(by omega) := List.getElem_take ..
    show RlR w (V.take s)[k] ((C.schemas.take s)[k]'(by rw [e2]; exact hk1)).rules
    rw [e3, e4]
    exact h6 k hkS (by omega)
set_option maxRecDepth 20000 in
set_option maxHeartbeats 16000000 in
theorem part_ok (v : Value) (l s : Int) (C : Cf) (w : World) (h : CfR w v C) (hT : Tab w) (hl9 : (Lit.int .i64 l).wf = true) (hs9 : (Lit.int .i64 s).wf = true) : Calls Tryd.prog 4 #[v, .int .i64 l, .int .i64 s] w fun e w' => e = .returned (.bool true) ∧ Below w.heap.size w w' := by
  have HF : Hd (Fits C ∧ Tab w) := ⟨h.fits, hT⟩
  have HV : Hd (∀ W, Below w.heap.size w W → CfR W v C) := ⟨fun W b => h.carry b⟩
  obtain ⟨n9, m9⟩ := h.sz
  obtain ⟨aL, cL, aS, cS, -, e0, -⟩ := h.ex
  subst e0
  clear h hT
  obtain ⟨x0, x1, x2, x3, L, S⟩ := C
  simp only at HV n9 m9 ⊢
  obtain ⟨n, hn⟩ : ∃ n, n = L.length := ⟨_, rfl⟩
  obtain ⟨m, hm⟩ : ∃ m, m = S.length := ⟨_, rfl⟩
  have HN : Hd (n = L.length ∧ m = S.length) := ⟨hn, hm⟩
  rw [← hn, ← hm] at HV ⊢
  rw [← hn] at n9
  rw [← hm] at m9
  clear hn hm
  have AL := alloc_below w (.cells #[.int .i64 x0, .int .i64 x1, .int .i64 x2, .int .i64 x3, .slice aL n cL, .slice aS m cS] 25)
  have NB := Blk.new w 25 #[.int .i64 x0, .int .i64 x1, .int .i64 x2, .int .i64 x3, .slice aL n cL, .slice aS m cS]
  have AW := awake_any (w.alloc (.cells #[.int .i64 x0, .int .i64 x1, .int .i64 x2, .int .i64 x3, .slice aL n cL, .slice aS m cS] 25)) (HF.out.2.stays AL)
  go_enter Tryd.func4, Tryd.ntmps4
  go_wp2_with fail
  go_at_call 5
  refine AW.mono ?_
  rintro e w2 ⟨rfl, b2⟩
  have B2 : Below w.heap.size w w2 := AL.trans (b2.mono AL.size)
  have N2 := NB.kept (Kept.of_below b2 (fun _ => False)) id
  clear AW AL NB b2
  have SM := small_any _ _ w2 (HV.out w2 B2)
  obtain ⟨gc, hgc⟩ : ∃ gc, gc = w.heap.size := ⟨_, rfl⟩
  rw [← hgc] at N2 ⊢
  clear hgc
  have c0 := N2.cellv (v := .int .i64 x0) 0 rfl
  have c1 := N2.cellv (v := .int .i64 x1) 1 rfl
  have c2 := N2.cellv (v := .int .i64 x2) 2 rfl
  have c3 := N2.cellv (v := .int .i64 x3) 3 rfl
  have c4 := N2.cellv (v := .slice aL n cL) 4 rfl
  have c5 := N2.cellv (v := .slice aS m cS) 5 rfl
  go_wp2_with fail
  go_at_call 6
  refine SM.mono ?_
  rintro e w3 ⟨⟨b, rfl⟩, b3⟩
  have B3 : Below w.heap.size w w3 := B2.trans (b3.mono B2.size)
  have N3 := N2.kept (Kept.of_below b3 (fun _ => False)) id
  clear SM b3 B2 c0 c1 c2 c3 c4 c5 N2
  have c0 := N3.cellv (v := .int .i64 x0) 0 rfl
  have c1 := N3.cellv (v := .int .i64 x1) 1 rfl
  have c2 := N3.cellv (v := .int .i64 x2) 2 rfl
  have c3 := N3.cellv (v := .int .i64 x3) 3 rfl
  have c4 := N3.cellv (v := .slice aL n cL) 4 rfl
  have c5 := N3.cellv (v := .slice aS m cS) 5 rfl
  cases b with
  | false =>
    go_wp2_with fail
    go_ret
    exact ⟨rfl, B3⟩
  | true =>
    by_cases h1 : l < 0
    · have q : decide (l < 0) = true := decide_eq_true h1
      go_wp2_with fail
      go_ret
      exact ⟨rfl, B3⟩
    obtain ⟨ll, rfl⟩ : ∃ ll : Nat, l = ll := ⟨l.toNat, by omega⟩
    by_cases h2 : n < ll
    · go_wp2_with fail
      go_ret
      exact ⟨rfl, B3⟩
    by_cases h3 : s < 0
    · have q : decide (s < 0) = true := decide_eq_true h3
      go_wp2_with fail
      go_ret
      exact ⟨rfl, B3⟩
    obtain ⟨sl, rfl⟩ : ∃ sl : Nat, s = sl := ⟨s.toNat, by omega⟩
    by_cases h4 : m < sl
    · go_wp2_with fail
      go_ret
      exact ⟨rfl, B3⟩
    have FO := formed_ok _ _ w3 (HV.out w3 B3)
    go_wp2_with fail
    go_at_call 10
    refine FO.mono ?_
    rintro e w4 ⟨rfl, b4⟩
    have B4 : Below w.heap.size w w4 := B3.trans (b4.mono B3.size)
    have N4 := N3.kept (Kept.of_below b4 (fun _ => False)) id
    have HFM : Hd (formed ⟨x0, x1, x2, x3, L, S⟩ = true → Formed ⟨x0, x1, x2, x3, L, S⟩) := ⟨fun h => formed_iff.1 h⟩
    generalize formed ⟨x0, x1, x2, x3, L, S⟩ = fb at *
    clear FO b4 B3 N3 c0 c1 c2 c3 c4 c5
    cases fb with
    | false =>
      go_wp2_with fail
      go_ret
      exact ⟨rfl, B4⟩
    | true =>
      have FM := HFM.out rfl
      have CP := copy_ok _ _ w4 (HV.out w4 B4) (formed_bnd FM)
      have HFM2 : Hd _ := ⟨FM⟩
      have c0 := N4.cellv (v := .int .i64 x0) 0 rfl
      have c1 := N4.cellv (v := .int .i64 x1) 1 rfl
      have c2 := N4.cellv (v := .int .i64 x2) 2 rfl
      have c3 := N4.cellv (v := .int .i64 x3) 3 rfl
      have c4 := N4.cellv (v := .slice aL n cL) 4 rfl
      have c5 := N4.cellv (v := .slice aS m cS) 5 rfl
      clear HFM FM
      go_wp2_with fail
      go_at_call 7
      refine CP.mono ?_
      rintro e w5 ⟨⟨vm, rfl, hW⟩, b5⟩
      have B5 : Below w.heap.size w w5 := B4.trans (b5.mono B4.size)
      have N5 := N4.kept (Kept.of_below b5 (fun _ => False)) id
      have MR := hW.read HF.out.1
      obtain ⟨bL, dL, bS, dS, -, e0, k1, k2, -⟩ := MR.ex
      simp only at e0 k1 k2
      rw [← HN.out.1, ← HN.out.2] at e0
      rw [← HN.out.1] at k1
      rw [← HN.out.2] at k2
      subst e0
      have HPR : Hd (∀ W, Below w5.heap.size w5 W → CfR W (.agg #[.int .i64 x0, .int .i64 x1, .int .i64 x2, .int .i64 x3, .slice bL ll dL, .slice bS sl dS]) (partC ⟨x0, x1, x2, x3, L, S⟩ ll sl)) := ⟨fun W b => (MR.carry b).part (by have := HN.out.1; simp only; omega) (by have := HN.out.2; simp only; omega)⟩
      have TT : Blk (w5.alloc (.cells #[.int .i64 x0, .int .i64 x1, .int .i64 x2, .int .i64 x3, .slice bL n dL, .slice bS m dS] 25)) gc 25 #[.int .i64 x0, .int .i64 x1, .int .i64 x2, .int .i64 x3, .slice aL n cL, .slice aS m cS] := N5.alloc _
      have NE := Blk.new w5 25 #[.int .i64 x0, .int .i64 x1, .int .i64 x2, .int .i64 x3, .slice bL n dL, .slice bS m dS]
      have AE := alloc_below w5 (.cells #[.int .i64 x0, .int .i64 x1, .int .i64 x2, .int .i64 x3, .slice bL n dL, .slice bS m dS] 25)
      have HGL : Hd (gc < w5.heap.size) := ⟨N5.lt⟩
      clear CP hW b5 B4 N4 c0 c1 c2 c3 c4 c5 MR N5
      simp only
      go_upto_region 6 with fail
      generalize w5.alloc _ = w6 at *
      obtain ⟨gd, hgd⟩ : ∃ gd, gd = w5.heap.size := ⟨_, rfl⟩
      rw [← hgd] at NE ⊢
      have HGD : Hd (gd = w5.heap.size) := ⟨hgd⟩
      clear hgd
      have d4 := NE.cellv (v := .slice bL n dL) 4 rfl
      have d5 := NE.cellv (v := .slice bS m dS) 5 rfl
      have f4 := NE.frozen 4
      have f5 := NE.frozen 5
      have q1 : ll ≤ dL := by omega
      have q2 : sl ≤ dS := by omega
      go_region
      have hne : gc ≠ gd := by have := HGL.out; have := HGD.out; omega
      have E7 : Blk (((w6.setCell ⟨gd, 4, none⟩ (.slice bL ll dL)).setCell ⟨gd, 5, none⟩ (.slice bS sl dS)).drew) gd 25 #[.int .i64 x0, .int .i64 x1, .int .i64 x2, .int .i64 x3, .slice bL ll dL, .slice bS sl dS] := by
        have e7 : Blk ((w6.setCell ⟨gd, 4, none⟩ (.slice bL ll dL)).setCell ⟨gd, 5, none⟩ (.slice bS sl dS)) gd 25 #[.int .i64 x0, .int .i64 x1, .int .i64 x2, .int .i64 x3, .slice bL ll dL, .slice bS sl dS] := by
          have := (NE.set 4 (.slice bL ll dL)).set 5 (.slice bS sl dS)
          simpa using this
        exact e7
      have T7 : Blk (((w6.setCell ⟨gd, 4, none⟩ (.slice bL ll dL)).setCell ⟨gd, 5, none⟩ (.slice bS sl dS)).drew) gc 25 #[.int .i64 x0, .int .i64 x1, .int .i64 x2, .int .i64 x3, .slice aL n cL, .slice aS m cS] := (TT.other hne _).other hne _
      have B7 : Below w5.heap.size w5 (((w6.setCell ⟨gd, 4, none⟩ (.slice bL ll dL)).setCell ⟨gd, 5, none⟩ (.slice bS sl dS)).drew) := by
        have K : Kept (fun k => k = gd) w6 (((w6.setCell ⟨gd, 4, none⟩ (.slice bL ll dL)).setCell ⟨gd, 5, none⟩ (.slice bS sl dS)).drew) := (((Kept.refl (fun k => k = gd) w6).setCell _ _ (.inl rfl)).setCell _ _ (.inl rfl)).drew
        exact AE.trans (K.below AE.size (fun k hk => by rw [hk, HGD.out]; exact Nat.le_refl _))
      generalize ((w6.setCell _ _).setCell _ _).drew = w7 at *
      clear NE TT AE d4 d5 f4 f5
      have P1 := print_ok _ _ w7 (HV.out w7 (B5.trans (B7.mono B5.size))) (HF.out.2.stays (B5.trans (B7.mono B5.size)))
      have HQ : Hd (printE ⟨x0, x1, x2, x3, L, S⟩ = 0 → printE (partC ⟨x0, x1, x2, x3, L, S⟩ ll sl) = 0 ∧ (printS (partC ⟨x0, x1, x2, x3, L, S⟩ ll sl)).size ≤ (printS ⟨x0, x1, x2, x3, L, S⟩).size) := ⟨fun he => part_print HFM2.out ll sl he⟩
      have P2 : Hd (∀ W, Below w5.heap.size w5 W → Calls Tryd.prog 8 #[.agg #[.int .i64 x0, .int .i64 x1, .int .i64 x2, .int .i64 x3, .slice bL ll dL, .slice bS sl dS]] W fun e w' => e = .returned (.tuple #[.string (printS (partC ⟨x0, x1, x2, x3, L, S⟩ ll sl)), .int .i64 (printE (partC ⟨x0, x1, x2, x3, L, S⟩ ll sl))]) ∧ Below W.heap.size W w') := ⟨fun W b => print_ok _ _ W (HPR.out W b) (HF.out.2.stays (B5.trans (b.mono B5.size)))⟩
      have P3 : Hd (∀ W, Below w5.heap.size w5 W → Calls Tryd.prog 10 #[.agg #[.int .i64 x0, .int .i64 x1, .int .i64 x2, .int .i64 x3, .slice bL ll dL, .slice bS sl dS]] W fun e w' => e = .returned (.bool true) ∧ Below W.heap.size W w') := ⟨fun W b => by
        have h0 := formed_ok _ _ W (HPR.out W b)
        rw [formed_iff.2 (part_formed HFM2.out ll sl)] at h0
        exact h0⟩
      generalize printE (partC ⟨x0, x1, x2, x3, L, S⟩ ll sl) = E2 at *
      generalize printS (partC ⟨x0, x1, x2, x3, L, S⟩ ll sl) = t2 at *
      generalize printE ⟨x0, x1, x2, x3, L, S⟩ = E1 at *
      generalize printS ⟨x0, x1, x2, x3, L, S⟩ = t1 at *
      have c0 := T7.cellv (v := .int .i64 x0) 0 rfl
      have c1 := T7.cellv (v := .int .i64 x1) 1 rfl
      have c2 := T7.cellv (v := .int .i64 x2) 2 rfl
      have c3 := T7.cellv (v := .int .i64 x3) 3 rfl
      have c4 := T7.cellv (v := .slice aL n cL) 4 rfl
      have c5 := T7.cellv (v := .slice aS m cS) 5 rfl
      go_wp2_with fail
      go_at_call 8
      refine P1.mono ?_
      rintro e w8 ⟨rfl, b8⟩
      have B8 : Below w5.heap.size w5 w8 := B7.trans (b8.mono B7.size)
      have E8 := E7.kept (Kept.of_below b8 (fun _ => False)) id
      clear P1 b8 B7 E7 T7 c0 c1 c2 c3 c4 c5
      have c0 := E8.cellv (v := .int .i64 x0) 0 rfl
      have c1 := E8.cellv (v := .int .i64 x1) 1 rfl
      have c2 := E8.cellv (v := .int .i64 x2) 2 rfl
      have c3 := E8.cellv (v := .int .i64 x3) 3 rfl
      have c4 := E8.cellv (v := .slice bL ll dL) 4 rfl
      have c5 := E8.cellv (v := .slice bS sl dS) 5 rfl
      have Q2 := P2.out w8 B8
      go_wp2_with fail
      go_at_call 8
      refine Q2.mono ?_
      rintro e w9 ⟨rfl, b9⟩
      have B9 : Below w5.heap.size w5 w9 := B8.trans (b9.mono B8.size)
      have E9 := E8.kept (Kept.of_below b9 (fun _ => False)) id
      clear Q2 b9 B8 E8 c0 c1 c2 c3 c4 c5
      have c0 := E9.cellv (v := .int .i64 x0) 0 rfl
      have c1 := E9.cellv (v := .int .i64 x1) 1 rfl
      have c2 := E9.cellv (v := .int .i64 x2) 2 rfl
      have c3 := E9.cellv (v := .int .i64 x3) 3 rfl
      have c4 := E9.cellv (v := .slice bL ll dL) 4 rfl
      have c5 := E9.cellv (v := .slice bS sl dS) 5 rfl
      have Q3 := P3.out w9 B9
      go_wp2_with fail
      go_at_call 10
      refine Q3.mono ?_
      rintro e wf ⟨rfl, bf⟩
      have BF : Hd (Below w.heap.size w wf) := ⟨B5.trans ((B9.trans (bf.mono B9.size)).mono B5.size)⟩
      clear Q3 bf B9 E9 c0 c1 c2 c3 c4 c5
      by_cases hE : E1 = 0
      · obtain ⟨q3, q4⟩ := HQ.out hE
        subst hE q3
        go_wp2_with fail
        go_ret
        first
          | exact ⟨rfl, BF.out⟩
          | exact ⟨by simp, BF.out⟩
      · have q5 : (E1 != 0) = true := bne_iff_ne.2 hE
        go_wp2_with fail
        go_ret
        exact ⟨rfl, BF.out⟩
end Go.Proofs.YtfollcabppkihaaDoor
