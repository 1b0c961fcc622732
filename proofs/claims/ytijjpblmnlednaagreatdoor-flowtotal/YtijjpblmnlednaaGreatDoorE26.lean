/-
  'Fill' of fill.
  What is filled: how great it is.
-/
import Derived.Test.YtijjpblmnlednaaGreatDoorE25
import Derived.Test.YtijjpblmnlednaaGreatDoorE13
namespace Go.Proofs.YtijjpblmnlednaaGreatDoor
open Go.RowKit
theorem orU_b (x u : Int) (w : World) : Calls Tryz.prog 25 #[.int .i64 x, .int .i64 u] w fun e w' => e = .returned (.int .i64 (orU x u)) ∧ Below w.heap.size w w' :=
  (orU_ok x u w).mono fun e w' h => ⟨h.1, by rw [h.2]; exact Below.refl _ _⟩
/-- Two boxes of a configuration. -/
theorem res9 (tmps : Array Value) (w : World) (r0 : Nat) (v0 v1 v2 v3 v4 v5 : Value) (ht : tmps[2]?.getD undef = .pointer (some ⟨r0, 0, none⟩)) (h : Blk w r0 25 #[v0, v1, v2, v3, v4, v5]) :
    (results Tryz.f10 tmps).run Tryz.prog w = .ok (.agg #[v0, v1, v2, v3, v4, v5]) w := by
  have c0 := h.cellv 0 rfl
  have c1 := h.cellv 1 rfl
  have c2 := h.cellv 2 rfl
  have c3 := h.cellv 3 rfl
  have c4 := h.cellv 4 rfl
  have c5 := h.cellv 5 rfl
  simp at c0 c1 c2 c3 c4 c5
  simp [results, Tryz.results10, go_sem, ht, c0, c1, c2, c3, c4, c5]
set_option maxRecDepth 20000 in
set_option maxHeartbeats 8000000 in
theorem fill_ok (v : Value) (C : Cf) (w : World) (h : CfR w v C) (hb : Bnd 900 C) : Calls Tryz.prog 10 #[v] w fun e w' => FCf w (fillC C) e w' := by
  obtain ⟨aL, cL, aS, cS, V, rfl, capL, capS, hL, hV, hS, hR⟩ := h.ex
  obtain ⟨x0, x1, x2, x3, L, S⟩ := C
  have hN : ∀ s ∈ S, s.rules.length ≤ 1000 ∧ ∀ r ∈ s.rules, RlN 1000 r := fun s hs => by
    obtain ⟨h1, h2⟩ := hb.rl s hs
    exact ⟨by omega, fun r hr => by obtain ⟨a, b, c, d, e⟩ := h2 r hr; exact ⟨by omega, by omega, by omega, by omega, by omega⟩⟩
  have HLv : Hd (∀ W, Below w.heap.size w W → Calls Tryz.prog 26 #[.slice aL L.length cL] W fun e w' => FLv W (fillL L) e w') := ⟨fun W b => fillLv_ok aL cL L W (hL.carry b) hb.lv⟩
  have HSc : Hd (∀ W, Below w.heap.size w W → Calls Tryz.prog 27 #[.slice aS S.length cS] W fun e w' => FSc W (fillS S) e w') := ⟨fun W b => fillSc_ok aS cS S V W (hS.carry b) hV (fun k h1 h2 => (hR k h1 h2).carry b) hb.sc hN⟩
  show Calls Tryz.prog 10 #[.agg #[.int .i64 x0, .int .i64 x1, .int .i64 x2, .int .i64 x3, .slice aL L.length cL, .slice aS S.length cS]] w fun e w' => FCf w ⟨orU x0 100, orU x1 10, orU x2 100, orU x3 10, fillL L, fillS S⟩ e w'
  clear h hb hL hS hR hV hN capL capS
  generalize fillL L = RL at *
  generalize fillS S = RS at *
  generalize L.length = nL at *
  generalize S.length = nS at *
  have T1 : Tw w.heap.size (w.heap.size + 1) #[.int .i64 x0, .int .i64 x1, .int .i64 x2, .int .i64 x3, .slice aL nL cL, .slice aS nS cS] #[.int .i64 0, .int .i64 0, .int .i64 0, .int .i64 0, .slice none 0 0, .slice none 0 0] ((w.alloc (.cells #[.int .i64 x0, .int .i64 x1, .int .i64 x2, .int .i64 x3, .slice aL nL cL, .slice aS nS cS] 25)).alloc (.cells #[.int .i64 0, .int .i64 0, .int .i64 0, .int .i64 0, .slice none 0 0, .slice none 0 0] 25)) := ⟨(Blk.new w 25 _).alloc _, alloc_new w _ 25 _⟩
  have AL : Below w.heap.size w ((w.alloc (.cells #[.int .i64 x0, .int .i64 x1, .int .i64 x2, .int .i64 x3, .slice aL nL cL, .slice aS nS cS] 25)).alloc (.cells #[.int .i64 0, .int .i64 0, .int .i64 0, .int .i64 0, .slice none 0 0, .slice none 0 0] 25)) := ((Below.refl _ _).alloc (Nat.le_refl _) _).alloc (by simp) _
  go_enter Tryz.func10, Tryz.ntmps10
  go_upto_region 1 with fail
  generalize (w.alloc _).alloc _ = w1 at *
  have DR : Below w1.heap.size w1 w1.drew := ⟨rfl, rfl, rfl, Nat.le_refl _, fun _ _ => rfl⟩
  have B0 : Below w.heap.size w w1.drew := AL.trans (DR.mono AL.size)
  have A0 := T1.b1.kept (Kept.of_below DR (fun _ => False)) id
  have Z0 := T1.b2.kept (Kept.of_below DR (fun _ => False)) id
  refine AnyG.start (T := fun w' => Blk w' w.heap.size 25 #[.int .i64 x0, .int .i64 x1, .int .i64 x2, .int .i64 x3, .slice aL nL cL, .slice aS nS cS]) (U := fun _ => True) (j0 := 100) (by kernel_rfl) ?_
  clear DR AL T1
  generalize w1.drew = w0 at *
  refine .tq 0 3 A0 ?_; simp only [tkA, tkB, tkC]
  refine .tq 1 4 A0 ?_ (hy := fun w hSw => by have s4 := hSw.cellv (v := .int .i64 x0) 0 rfl; go_simp; rfl); simp only [tkA, tkB, tkC]
  refine .tq 3 6 A0 ?_; simp only [tkA, tkB, tkC]
  refine .tq 4 7 A0 ?_ (hy := fun w hSw => by have s4 := hSw.cellv (v := .int .i64 x1) 1 rfl; go_simp; rfl); simp only [tkA, tkB, tkC]
  refine .tq 6 9 A0 ?_; simp only [tkA, tkB, tkC]
  refine .tq 7 10 A0 ?_ (hy := fun w hSw => by have s4 := hSw.cellv (v := .int .i64 x2) 2 rfl; go_simp; rfl); simp only [tkA, tkB, tkC]
  refine .tq 9 12 A0 ?_; simp only [tkA, tkB, tkC]
  refine .tq 10 13 A0 ?_ (hy := fun w hSw => by have s4 := hSw.cellv (v := .int .i64 x3) 3 rfl; go_simp; rfl); simp only [tkA, tkB, tkC]
  refine .tq 12 15 A0 ?_; simp only [tkA, tkB, tkC]
  refine .tq 13 16 A0 ?_ (hy := fun w hSw => by have s4 := hSw.cellv (v := .slice aL nL cL) 4 rfl; go_simp; rfl); simp only [tkA, tkB, tkC]
  refine .tq 15 18 A0 ?_; simp only [tkA, tkB, tkC]
  refine .tq 16 19 A0 ?_ (hy := fun w hSw => by have s4 := hSw.cellv (v := .slice aS nS cS) 5 rfl; go_simp; rfl); simp only [tkA, tkB, tkC]
  refine AnyG.ready (rs := [2]) (by kernel_rfl) (by simp) ?_
  refine AllG.cons rfl (fun K hK => ?_) AllG.nil
  go_simp
  refine (orU_b x0 100 w0).mono ?_
  rintro e wk1 ⟨rfl, b1⟩
  have Ak1 := A0.kept (Kept.of_below b1 (fun _ => False)) id
  have Bk1 : Below w.heap.size w wk1 := B0.trans (b1.mono B0.size)
  replace Z0 := Z0.kept (Kept.of_below b1 (fun _ => False)) id
  refine hK.out _ _ ⟨Ak1, fun _ => trivial⟩ ?_
  clear hK K b1 A0 B0
  refine AnyG.ready (rs := [5]) (by kernel_rfl) (by simp) ?_
  refine AllG.cons rfl (fun K hK => ?_) AllG.nil
  go_simp
  refine (orU_b x1 10 wk1).mono ?_
  rintro e wk2 ⟨rfl, b2⟩
  have Ak2 := Ak1.kept (Kept.of_below b2 (fun _ => False)) id
  have Bk2 : Below w.heap.size w wk2 := Bk1.trans (b2.mono Bk1.size)
  replace Z0 := Z0.kept (Kept.of_below b2 (fun _ => False)) id
  refine hK.out _ _ ⟨Ak2, fun _ => trivial⟩ ?_
  clear hK K b2 Ak1 Bk1
  refine AnyG.ready (rs := [8]) (by kernel_rfl) (by simp) ?_
  refine AllG.cons rfl (fun K hK => ?_) AllG.nil
  go_simp
  refine (orU_b x2 100 wk2).mono ?_
  rintro e wk3 ⟨rfl, b3⟩
  have Ak3 := Ak2.kept (Kept.of_below b3 (fun _ => False)) id
  have Bk3 : Below w.heap.size w wk3 := Bk2.trans (b3.mono Bk2.size)
  replace Z0 := Z0.kept (Kept.of_below b3 (fun _ => False)) id
  refine hK.out _ _ ⟨Ak3, fun _ => trivial⟩ ?_
  clear hK K b3 Ak2 Bk2
  refine AnyG.ready (rs := [11]) (by kernel_rfl) (by simp) ?_
  refine AllG.cons rfl (fun K hK => ?_) AllG.nil
  go_simp
  refine (orU_b x3 10 wk3).mono ?_
  rintro e wk4 ⟨rfl, b4⟩
  have Ak4 := Ak3.kept (Kept.of_below b4 (fun _ => False)) id
  have Bk4 : Below w.heap.size w wk4 := Bk3.trans (b4.mono Bk3.size)
  replace Z0 := Z0.kept (Kept.of_below b4 (fun _ => False)) id
  refine hK.out _ _ ⟨Ak4, fun _ => trivial⟩ ?_
  clear hK K b4 Ak3 Bk3
  refine AnyG.ready (rs := [14]) (by kernel_rfl) (by simp) ?_
  refine AllG.cons rfl (fun K hK => ?_) AllG.nil
  go_simp
  refine (HLv.out wk4 Bk4).mono ?_
  rintro e wk5 ⟨⟨vL, rfl, oL⟩, b5⟩
  have Ak5 := Ak4.kept (Kept.of_below b5 (fun _ => False)) id
  have Bk5 : Below w.heap.size w wk5 := Bk4.trans (b5.mono Bk4.size)
  replace Z0 := Z0.kept (Kept.of_below b5 (fun _ => False)) id
  replace oL := LvW.mono (B' := w.heap.size) oL Bk4.size
  obtain ⟨bL, kL, rfl, -⟩ := LvW.read oL
  refine hK.out _ _ ⟨Ak5, fun _ => trivial⟩ ?_
  clear hK K b5 Ak4 Bk4
  refine AnyG.ready (rs := [17]) (by kernel_rfl) (by simp) ?_
  refine AllG.cons rfl (fun K hK => ?_) AllG.nil
  go_simp
  refine (HSc.out wk5 Bk5).mono ?_
  rintro e wk6 ⟨⟨vS, V2, rfl, oS⟩, b6⟩
  have Ak6 := Ak5.kept (Kept.of_below b6 (fun _ => False)) id
  have Bk6 : Below w.heap.size w wk6 := Bk5.trans (b6.mono Bk5.size)
  replace Z0 := Z0.kept (Kept.of_below b6 (fun _ => False)) id
  replace oL := LvW.grown oL b6
  replace oS := ScW.mono (B' := w.heap.size) oS Bk5.size
  obtain ⟨bS, kS, rfl, -⟩ := ScW.read oS
  refine hK.out _ _ ⟨Ak6, fun _ => trivial⟩ ?_
  clear hK K b6 Ak5 Bk5
  have OO : Hd _ := ⟨And.intro oL oS⟩
  clear oL oS
  refine .tq 18 21 Ak6 ?_; simp only [tkA, tkB, tkC]
  have M : Hd _ := ⟨six_set Z0 (.int .i64 (orU x0 100)) (.int .i64 (orU x1 10)) (.int .i64 (orU x2 100)) (.int .i64 (orU x3 10)) (.slice bL RL.length kL) (.slice bS RS.length kS)⟩
  have HZ : Hd _ := ⟨Z0⟩
  have d0 := Z0.cellv (v := .int .i64 0) 0 rfl
  have f0 := Z0.frozen 0
  have d1 := Z0.cellv (v := .int .i64 0) 1 rfl
  have f1 := Z0.frozen 1
  have d2 := Z0.cellv (v := .int .i64 0) 2 rfl
  have f2 := Z0.frozen 2
  have d3 := Z0.cellv (v := .int .i64 0) 3 rfl
  have f3 := Z0.frozen 3
  have d4 := Z0.cellv (v := .slice none 0 0) 4 rfl
  have f4 := Z0.frozen 4
  have d5 := Z0.cellv (v := .slice none 0 0) 5 rfl
  have f5 := Z0.frozen 5
  refine AnyG.ready (rs := [19]) (by kernel_rfl) (by simp) ?_
  refine AllG.cons rfl (fun K hK => ?_) AllG.nil
  go_simp
  refine hK.out _ _ ⟨Ak6.kept M.out.2 (by omega), fun _ => trivial⟩ ?_
  clear hK K d0 f0 d1 f1 d2 f2 d3 f3 d4 f4 d5 f5
  refine AnyG.done (by kernel_rfl) ?_ _
  go_wp2_with fail
  obtain ⟨m0, k0⟩ := M.out
  obtain ⟨oL, oS⟩ := OO.out
  refine bodyPost_ret (res9 _ _ (w.heap.size + 1) _ _ _ _ _ _ rfl m0) rfl ⟨⟨_, rfl, _, _, V2, rfl, LvW.off oL k0 (off_blk HZ.out (by decide)), ScW.off oS k0 (off_blk HZ.out (by decide)) (off_blk HZ.out (by decide)) (off_blk HZ.out (by decide))⟩, ?_⟩
  exact Bk6.trans (k0.below Bk6.size (fun k hk => by omega))
theorem orU_ne (x u : Int) (h : u ≠ 0) : orU x u ≠ 0 := by unfold orU; split <;> assumption
theorem orU_keep {x : Int} (u : Int) (h : x ≠ 0) : orU x u = x := if_neg h
theorem orU_idem (x u : Int) (h : u ≠ 0) : orU (orU x u) u = orU x u := orU_keep u (orU_ne x u h)
theorem anyL_append (L M : List Lv) (x : ByteArray) : anyL (L ++ M) x = (anyL L x || anyL M x) := by unfold anyL; rw [List.any_append]
theorem anyS_append (L M : List Sc) (x : ByteArray) : anyS (L ++ M) x = (anyS L x || anyS M x) := by unfold anyS; rw [List.any_append]
theorem lvX_e : anyL [lvX] tExempt = true := by unfold anyL lvX; simp
theorem lvY_c : anyL [lvY] tCatch = true := by unfold anyL lvY; simp
theorem scX_e : anyS [scX] tExempt = true := by unfold anyS scX; simp
theorem scY_c : anyS [scY] tCatch = true := by unfold anyS scY; simp
theorem lvXY : anyL [lvX, lvY] tExempt = true ∧ anyL [lvX, lvY] tCatch = true := by unfold anyL lvX lvY; simp
theorem scXY : anyS [scX, scY] tExempt = true ∧ anyS [scX, scY] tCatch = true := by unfold anyS scX scY; simp
theorem fillL_has (L : List Lv) : anyL (fillL L) tExempt = true ∧ anyL (fillL L) tCatch = true := by
  unfold fillL putX
  cases h1 : anyL L tExempt <;> cases h2 : anyL L tCatch <;> simp [anyL_append, h1, h2, lvX_e, lvY_c, lvXY]
theorem fillS_has (L : List Sc) : anyS (fillS L) tExempt = true ∧ anyS (fillS L) tCatch = true := by
  unfold fillS putX
  cases h1 : anyS L tExempt <;> cases h2 : anyS L tCatch <;> simp [anyS_append, h1, h2, scX_e, scY_c, scXY]
theorem fillL_idem (L : List Lv) : fillL (fillL L) = fillL L := by
  obtain ⟨h1, h2⟩ := fillL_has L
  show putX (anyL (fillL L) tCatch) (putX (anyL (fillL L) tExempt) (fillL L) lvX) lvY = fillL L
  rw [h1, h2]
  rfl
theorem fillS_idem (L : List Sc) : fillS (fillS L) = fillS L := by
  obtain ⟨h1, h2⟩ := fillS_has L
  show putX (anyS (fillS L) tCatch) (putX (anyS (fillS L) tExempt) (fillS L) scX) scY = fillS L
  rw [h1, h2]
  rfl
theorem fillC_idem (C : Cf) : fillC (fillC C) = fillC C := by
  unfold fillC
  simp only [fillL_idem, fillS_idem, orU_idem _ _ (by decide : (100 : Int) ≠ 0), orU_idem _ _ (by decide : (10 : Int) ≠ 0)]
theorem fillL_ext (L : List Lv) : ∃ T, fillL L = L ++ T ∧ T.length ≤ 2 ∧ ∀ l ∈ T, l = lvX ∨ l = lvY := by
  unfold fillL putX
  cases anyL L tExempt <;> cases anyL L tCatch
  · exact ⟨[lvX, lvY], by simp, by simp, by simp⟩
  · exact ⟨[lvX], by simp, by simp, by simp⟩
  · exact ⟨[lvY], by simp, by simp, by simp⟩
  · exact ⟨[], by simp, by simp, by simp⟩
theorem fillS_ext (L : List Sc) : ∃ T, fillS L = L ++ T ∧ T.length ≤ 2 ∧ ∀ l ∈ T, l = scX ∨ l = scY := by
  unfold fillS putX
  cases anyS L tExempt <;> cases anyS L tCatch
  · exact ⟨[scX, scY], by simp, by simp, by simp⟩
  · exact ⟨[scX], by simp, by simp, by simp⟩
  · exact ⟨[scY], by simp, by simp, by simp⟩
  · exact ⟨[], by simp, by simp, by simp⟩
theorem rlX_f : RlF rlX := by
  refine ⟨⟨?_, ?_⟩, ⟨?_, ?_⟩, ⟨?_, ?_⟩, ⟨?_, ?_⟩, ?_, ?_⟩ <;> simp [rlX] <;> decide
theorem rlY_f : RlF rlY := by
  refine ⟨⟨?_, ?_⟩, ⟨?_, ?_⟩, ⟨?_, ?_⟩, ⟨?_, ?_⟩, ?_, ?_⟩ <;> simp [rlY] <;> decide
theorem fillC_fits {n : Nat} {C : Cf} (h : Fits C) (hb : Bnd n C) (hn : n ≤ 1000) : Fits (fillC C) := by
  obtain ⟨T, e1, t1, m1⟩ := fillL_ext C.levels
  obtain ⟨U, e2, t2, m2⟩ := fillS_ext C.schemas
  have a1 := hb.lv
  have a2 := hb.sc
  refine ⟨⟨?_, ?_⟩, ⟨?_, ?_⟩, ?_⟩
  · show (fillL C.levels).length ≤ _; rw [e1, List.length_append]; omega
  · show (fillS C.schemas).length ≤ _; rw [e2, List.length_append]; omega
  · show ∀ l ∈ fillL C.levels, _
    rw [e1]
    intro l hl
    rcases List.mem_append.1 hl with hl | hl
    · exact h.nm.1 l hl
    · rcases m1 l hl with rfl | rfl <;> decide
  · show ∀ l ∈ fillS C.schemas, _
    rw [e2]
    intro l hl
    rcases List.mem_append.1 hl with hl | hl
    · exact h.nm.2 l hl
    · rcases m2 l hl with rfl | rfl <;> decide
  · show ∀ l ∈ fillS C.schemas, _
    rw [e2]
    intro l hl
    rcases List.mem_append.1 hl with hl | hl
    · exact h.rl l hl
    · rcases m2 l hl with rfl | rfl
      · exact ⟨by decide, fun r hr => by rw [List.mem_singleton.1 hr]; exact rlX_f⟩
      · exact ⟨by decide, fun r hr => by rw [List.mem_singleton.1 hr]; exact rlY_f⟩
theorem fillC_bnd {n : Nat} {C : Cf} (hb : Bnd n C) : Bnd (n + 2) (fillC C) := by
  obtain ⟨T, e1, t1, m1⟩ := fillL_ext C.levels
  obtain ⟨U, e2, t2, m2⟩ := fillS_ext C.schemas
  have a1 := hb.lv
  have a2 := hb.sc
  refine ⟨?_, ?_, ?_⟩
  · show (fillL C.levels).length ≤ _; rw [e1, List.length_append]; omega
  · show (fillS C.schemas).length ≤ _; rw [e2, List.length_append]; omega
  · show ∀ l ∈ fillS C.schemas, _
    rw [e2]
    intro l hl
    rcases List.mem_append.1 hl with hl | hl
    · obtain ⟨h1, h2⟩ := hb.rl l hl
      exact ⟨by omega, fun r hr => by obtain ⟨c0, c1, c2, c3, c4⟩ := h2 r hr; exact ⟨by omega, by omega, by omega, by omega, by omega⟩⟩
    · rcases m2 l hl with rfl | rfl
      · refine ⟨by show 1 ≤ _; omega, fun r hr => ?_⟩
        rw [List.mem_singleton.1 hr]
        exact ⟨by show 0 ≤ _; omega, by show 1 ≤ _; omega, by show 1 ≤ _; omega, by show 1 ≤ _; omega, by show 1 ≤ _; omega⟩
      · refine ⟨by show 1 ≤ _; omega, fun r hr => ?_⟩
        rw [List.mem_singleton.1 hr]
        exact ⟨by show 1 ≤ _; omega, by show 0 ≤ _; omega, by show 1 ≤ _; omega, by show 1 ≤ _; omega, by show 1 ≤ _; omega⟩
theorem Bnd.mono {m n : Nat} {C : Cf} (h : Bnd m C) (k : m ≤ n) : Bnd n C :=
  ⟨Nat.le_trans h.lv k, Nat.le_trans h.sc k, fun s hs => by
    obtain ⟨h1, h2⟩ := h.rl s hs
    exact ⟨Nat.le_trans h1 k, fun r hr => by obtain ⟨c0, c1, c2, c3, c4⟩ := h2 r hr; exact ⟨by omega, by omega, by omega, by omega, by omega⟩⟩⟩
end Go.Proofs.YtijjpblmnlednaaGreatDoor
