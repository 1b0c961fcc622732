/-
  What is filled in is within reach; what an answer of 'Check' says. Condition: none.
  RulesAll, walked. Conditions: the configuration lies in memory, its numbers are of their type; the row's variable.
-/
import Derived.Test.YtlkoaldekmdcoaaGreatDoorQRE
import Derived.Test.YtlkoaldekmdcoaaGreatDoorQSmC
import Derived.Test.YtlkoaldekmdcoaaGreatDoorQRlM
import Derived.Test.YtlkoaldekmdcoaaGreatDoorQRcB
import Derived.Test.YtlkoaldekmdcoaaGreatDoorQLawS
namespace Go.Proofs.YtlkoaldekmdcoaaGreatDoor
open Go.RowKit

theorem mem_putX {α : Type} {b : Bool} {L : List α} {x y : α} (h : y ∈ putX b L x) : y ∈ L ∨ y = x := by
  unfold putX at h
  split at h
  · exact .inl h
  · rcases List.mem_append.1 h with h | h
    · exact .inl h
    · exact .inr (List.mem_singleton.1 h)
theorem mem_fillL {L : List Lv} {l : Lv} (h : l ∈ fillL L) : l ∈ L ∨ l = lvX ∨ l = lvY := by
  rcases mem_putX h with h | h
  · rcases mem_putX h with h | h
    · exact .inl h
    · exact .inr (.inl h)
  · exact .inr (.inr h)
theorem mem_fillS {L : List Sc} {l : Sc} (h : l ∈ fillS L) : l ∈ L ∨ l = scX ∨ l = scY := by
  rcases mem_putX h with h | h
  · rcases mem_putX h with h | h
    · exact .inl h
    · exact .inr (.inl h)
  · exact .inr (.inr h)
theorem orU_le {x u : Int} (h : x ≤ 9223372036854775807) (hu : u ≤ 9223372036854775807) : orU x u ≤ 9223372036854775807 := by
  unfold orU; split <;> assumption
theorem lvX_g : LvG lvX ∧ LvG lvY := ⟨⟨by decide, by decide, by decide, by decide, by decide, by decide, by decide, by decide, by decide, by decide⟩, ⟨by decide, by decide, by decide, by decide, by decide, by decide, by decide, by decide, by decide, by decide⟩⟩
theorem scX_g : ScG scX ∧ ScG scY := ⟨⟨by decide, by decide, by decide, by decide⟩, ⟨by decide, by decide, by decide, by decide⟩⟩
theorem Wfc.fill {C : Cf} (h : Wfc C) : Wfc (fillC C) :=
  ⟨orU_le h.t (by decide), orU_le h.p (by decide), orU_le h.s (by decide), orU_le h.m (by decide), fun l hl => by
    rcases mem_fillL hl with hl | rfl | rfl
    · exact h.lv l hl
    · exact lvX_g.1
    · exact lvX_g.2, fun s hs => by
    rcases mem_fillS hs with hs | rfl | rfl
    · exact h.sc s hs
    · exact scX_g.1
    · exact scX_g.2⟩
theorem Nms.fill {C : Cf} (h : Nms C) : Nms (fillC C) :=
  ⟨fun l hl => by
    rcases mem_fillL hl with hl | rfl | rfl
    · exact h.lv l hl
    · decide
    · decide, fun s hs => by
    rcases mem_fillS hs with hs | rfl | rfl
    · exact h.sc s hs
    · decide
    · decide⟩

theorem chk_txt {C : Cf} (h : (chk C).1 = 0) : chk C = (0, ⟨#[]⟩) := by
  unfold chk at h ⊢
  split at h
  · rename_i h1
    rw [if_pos h1]
    split at h
    · rename_i h2
      rw [if_pos h2]
      split at h
      · rename_i h3
        rw [if_pos h3]
        split at h
        · rename_i h4
          rw [if_pos h4]
          split at h
          · rename_i h5; rw [if_pos h5]
          · simp at h
        · rename_i h4; exact absurd h h4
      · rename_i h3; exact absurd h h3
    · simp at h
  · simp at h
theorem code_err (p : Int × ByteArray) (w : World) (he : ET w) : Calls Tryz.prog 12 #[errV p] w fun e w' => e = .returned (.int .i64 p.1) ∧ Below w.heap.size w w' := by
  obtain ⟨n, s⟩ := p
  by_cases h : n = 0
  · subst h
    rw [errV_nil]
    exact code_nil w
  · rw [errV_no h]
    exact code_val n s w he
theorem what_err (p : Int × ByteArray) (w : World) (he : ET w) (hp : p.1 = 0 → p = (0, ⟨#[]⟩)) : Calls Tryz.prog 13 #[errV p] w fun e w' => e = .returned (.string p.2) ∧ Below w.heap.size w w' := by
  obtain ⟨n, s⟩ := p
  by_cases h : n = 0
  · have := hp h
    rw [this, errV_nil]
    exact what_ok (.inr ()) [] w he
  · rw [errV_no h]
    exact what_val n s w he
end Go.Proofs.YtlkoaldekmdcoaaGreatDoor

namespace Go.Proofs.YtlkoaldekmdcoaaGreatDoor
open Go.RowKit

/-- A configuration within reach. -/
structure Cnd (W : World) (v : Value) (D : Cf) : Prop where
  r : CfR W v D
  g : Wfc D
  nm : Nms D
  bd : Bnd 82 D
  ft : Fits D
theorem Cnd.carry {W W' : World} {v : Value} {D : Cf} (h : Cnd W v D) (b : Below W.heap.size W W') : Cnd W' v D := ⟨h.r.carry b, h.g, h.nm, h.bd, h.ft⟩
theorem Cnd.six {W : World} {v : Value} {D : Cf} (h : Cnd W v D) : Six v := by
  obtain ⟨aL, cL, aS, cS, V0, rfl, -⟩ := h.r.ex
  exact ⟨_, _, _, _, _, _, _, _, _, _, rfl⟩
set_option maxRecDepth 20000 in
set_option maxHeartbeats 16000000 in
theorem rules_all (v : Value) (C : Cf) (w : World) (h : CfR w v C) (g : Wfc C) (he : ET w) : Calls Tryz.prog 3 #[v] w fun e w' => e = .returned (.bool true) ∧ Below w.heap.size w w' := by
  have HF : Hd (Fits C) := ⟨h.fits⟩
  have HV : Hd (∀ W, Below w.heap.size w W → CfR W v C) := ⟨fun W b => h.carry b⟩
  have HT : Hd (∀ W, Below w.heap.size w W → ET W) := ⟨fun W b => he.stays b⟩
  have HG : Hd (Wfc C) := ⟨g⟩
  have h6 : Six v := by
    obtain ⟨aL, cL, aS, cS, V0, rfl, -⟩ := h.ex
    exact ⟨_, _, _, _, _, _, _, _, _, _, rfl⟩
  clear h he g
  obtain ⟨x0, x1, x2, x3, aL, n, cL, aS, m, cS, rfl⟩ := h6
  have AL := alloc_below w (.cells #[.int .i64 x0, .int .i64 x1, .int .i64 x2, .int .i64 x3, .slice aL n cL, .slice aS m cS] 25)
  have NB := Blk.new w 25 #[.int .i64 x0, .int .i64 x1, .int .i64 x2, .int .i64 x3, .slice aL n cL, .slice aS m cS]
  have AW := awake_ok (w.alloc (.cells #[.int .i64 x0, .int .i64 x1, .int .i64 x2, .int .i64 x3, .slice aL n cL, .slice aS m cS] 25)) (HT.out _ AL)
  go_enter Tryz.func3, Tryz.ntmps3
  go_wp2_with fail
  go_at_call 6
  refine AW.mono ?_
  rintro e w2 ⟨rfl, b2⟩
  have B2 : Below w.heap.size w w2 := AL.trans (b2.mono AL.size)
  have N2 := NB.kept (Kept.of_below b2 (fun _ => False)) id
  clear AW AL NB b2
  have SM := small_nm _ _ w2 (HV.out w2 B2)
  obtain ⟨⟨c0, c1, c2, c3, c4, c5⟩, -⟩ := N2.six
  obtain ⟨gc, hgc⟩ : ∃ gc, gc = w.heap.size := ⟨_, rfl⟩
  rw [← hgc] at c0 c1 c2 c3 c4 c5 N2 ⊢
  clear hgc
  go_wp2_with fail
  go_at_call 7
  refine SM.mono ?_
  rintro e w3 ⟨⟨b, rfl, hbnd⟩, b3⟩
  have B3 : Below w.heap.size w w3 := B2.trans (b3.mono B2.size)
  have N3 := N2.kept (Kept.of_below b3 (fun _ => False)) id
  have HB : Hd (b = true → Bnd 80 C ∧ Nms C) := ⟨hbnd⟩
  clear SM b3 B2 c0 c1 c2 c3 c4 c5 hbnd N2
  cases b with
  | false =>
    go_wp2_with fail
    go_ret
    exact ⟨rfl, B3⟩
  | true =>
    obtain ⟨hbnd, hnm⟩ := HB.out rfl
    have FL : Hd (∀ W, Below w3.heap.size w3 W → Calls Tryz.prog 8 #[.agg #[.int .i64 x0, .int .i64 x1, .int .i64 x2, .int .i64 x3, .slice aL n cL, .slice aS m cS]] W fun e w' => FCf W (fillC C) e w') := ⟨fun W b => fill_ok _ _ W ((HV.out w3 B3).carry b) (hbnd.mono (by decide))⟩
    have FI := fillC_fits HF.out hbnd (by decide)
    have FB := fillC_bnd hbnd
    have CD0 : Hd (Cnd w3 (.agg #[.int .i64 x0, .int .i64 x1, .int .i64 x2, .int .i64 x3, .slice aL n cL, .slice aS m cS]) C) := ⟨HV.out w3 B3, HG.out, hnm, hbnd.mono (by decide), HF.out⟩
    have HFC : Hd (Wfc (fillC C) ∧ Nms (fillC C) ∧ Bnd 82 (fillC C) ∧ Fits (fillC C)) := ⟨HG.out.fill, hnm.fill, FB, FI⟩
    have HT3 : Hd (∀ W, Below w3.heap.size w3 W → ET W) := ⟨fun W b => HT.out W (B3.trans (b.mono B3.size))⟩
    have HB3 : Hd (Below w.heap.size w w3) := ⟨B3⟩
    clear HB HV HF HG HT hbnd hnm FI FB B3
    generalize fillC C = D at *
    obtain ⟨⟨c0, c1, c2, c3, c4, c5⟩, -⟩ := N3.six
    have hgc := N3.lt
    clear N3
    go_upto_region 5 with fail
    have DR : Below w3.heap.size w3 w3.drew := ⟨rfl, rfl, rfl, Nat.le_refl _, fun _ _ => rfl⟩
    refine AnyG.start (T := fun w' => Below w3.heap.size w3 w') (U := fun _ => True) (j0 := 100) (by kernel_rfl) ?_
    generalize w3.drew = w0 at *
    refine .tk 0 14 rfl rfl (by kernel_rfl) (fun _ _ _ h => h) ⟨DR, fun _ => trivial⟩ (by rfl) (fun W hSw => by have s0 := (hSw.cell (p := ⟨gc, 0, none⟩) hgc).trans c0; have s1 := (hSw.cell (p := ⟨gc, 1, none⟩) hgc).trans c1; have s2 := (hSw.cell (p := ⟨gc, 2, none⟩) hgc).trans c2; have s3 := (hSw.cell (p := ⟨gc, 3, none⟩) hgc).trans c3; have s4 := (hSw.cell (p := ⟨gc, 4, none⟩) hgc).trans c4; have s5 := (hSw.cell (p := ⟨gc, 5, none⟩) hgc).trans c5; go_simp; rfl) ?_; simp only [tkA, tkB, tkC]
    refine .tk 1 15 rfl rfl (by kernel_rfl) (fun _ _ _ h => h) ⟨DR, fun _ => trivial⟩ (by rfl) (fun W hSw => by have s0 := (hSw.cell (p := ⟨gc, 0, none⟩) hgc).trans c0; have s1 := (hSw.cell (p := ⟨gc, 1, none⟩) hgc).trans c1; have s2 := (hSw.cell (p := ⟨gc, 2, none⟩) hgc).trans c2; have s3 := (hSw.cell (p := ⟨gc, 3, none⟩) hgc).trans c3; have s4 := (hSw.cell (p := ⟨gc, 4, none⟩) hgc).trans c4; have s5 := (hSw.cell (p := ⟨gc, 5, none⟩) hgc).trans c5; go_simp; rfl) ?_; simp only [tkA, tkB, tkC]
    refine .tk 5 19 rfl rfl (by kernel_rfl) (fun _ _ _ h => h) ⟨DR, fun _ => trivial⟩ (by rfl) (fun W hSw => by go_simp; rfl) ?_; simp only [tkA, tkB, tkC]
    refine AnyG.ready (rs := [2]) (by kernel_rfl) (by simp) ?_
    refine AllG.cons rfl (fun K hK => ?_) AllG.nil
    go_simp
    refine (FL.out _ DR).mono ?_
    rintro e w4 ⟨⟨v4, rfl, hcw⟩, b4⟩
    have B4 : Below w3.heap.size w3 w4 := DR.trans (b4.mono DR.size)
    have R4 := hcw.read HFC.out.2.2.2
    have CD1 : Hd (Cnd w4 v4 D) := ⟨R4, HFC.out.1, HFC.out.2.1, HFC.out.2.2.1, HFC.out.2.2.2⟩
    obtain ⟨y0, y1, y2, y3, bL, p, dL, bS, r, dS, rfl⟩ := CD1.out.six
    refine hK.out _ _ ⟨B4, fun _ => trivial⟩ ?_
    clear hK K b4 R4 hcw DR c0 c1 c2 c3 c4 c5 FL HFC
    refine AnyG.ready (rs := [3]) (by kernel_rfl) (by simp) ?_
    refine AllG.cons rfl (fun K hK => ?_) AllG.nil
    go_simp
    have AL5 := alloc_below w4 (.cells #[.int .i64 x0, .int .i64 x1, .int .i64 x2, .int .i64 x3, .slice aL n cL, .slice aS m cS, .int .i64 y0, .int .i64 y1, .int .i64 y2, .int .i64 y3, .slice bL p dL, .slice bS r dS] 25)
    have B5 : Below w3.heap.size w3 (w4.alloc (.cells #[.int .i64 x0, .int .i64 x1, .int .i64 x2, .int .i64 x3, .slice aL n cL, .slice aS m cS, .int .i64 y0, .int .i64 y1, .int .i64 y2, .int .i64 y3, .slice bL p dL, .slice bS r dS] 25)) := B4.trans (AL5.mono B4.size)
    have N5 := Blk.new w4 25 #[.int .i64 x0, .int .i64 x1, .int .i64 x2, .int .i64 x3, .slice aL n cL, .slice aS m cS, .int .i64 y0, .int .i64 y1, .int .i64 y2, .int .i64 y3, .slice bL p dL, .slice bS r dS]
    have K0 : Hd (Cnd (w4.alloc (.cells #[.int .i64 x0, .int .i64 x1, .int .i64 x2, .int .i64 x3, .slice aL n cL, .slice aS m cS, .int .i64 y0, .int .i64 y1, .int .i64 y2, .int .i64 y3, .slice bL p dL, .slice bS r dS] 25)) (.agg #[.int .i64 x0, .int .i64 x1, .int .i64 x2, .int .i64 x3, .slice aL n cL, .slice aS m cS]) C) := ⟨CD0.out.carry B5⟩
    have K1 : Hd (Cnd (w4.alloc (.cells #[.int .i64 x0, .int .i64 x1, .int .i64 x2, .int .i64 x3, .slice aL n cL, .slice aS m cS, .int .i64 y0, .int .i64 y1, .int .i64 y2, .int .i64 y3, .slice bL p dL, .slice bS r dS] 25)) (.agg #[.int .i64 y0, .int .i64 y1, .int .i64 y2, .int .i64 y3, .slice bL p dL, .slice bS r dS]) D) := ⟨CD1.out.carry AL5⟩
    refine hK.out _ _ ⟨B5, fun _ => trivial⟩ ?_
    clear hK K AL5 B4 CD0 CD1
    generalize w4.alloc (.cells #[.int .i64 x0, .int .i64 x1, .int .i64 x2, .int .i64 x3, .slice aL n cL, .slice aS m cS, .int .i64 y0, .int .i64 y1, .int .i64 y2, .int .i64 y3, .slice bL p dL, .slice bS r dS] 25) = w5 at *
    generalize w4.heap.size = gS at *
    refine .tk 4 18 rfl rfl (by kernel_rfl) (fun _ _ _ h => h) ⟨B5, fun _ => trivial⟩ (by rfl) (fun W hSw => by go_simp; rfl) ?_; simp only [tkA, tkB, tkC]
    refine AnyG.done (by kernel_rfl) ?_ _
    have HPQ : Hd (∀ q, q < 2 → ∃ z0 z1 z2 z3 e1 n1 f1 e2 n2 f2 F, (∀ W, Blk W gS 25 #[.int .i64 x0, .int .i64 x1, .int .i64 x2, .int .i64 x3, .slice aL n cL, .slice aS m cS, .int .i64 y0, .int .i64 y1, .int .i64 y2, .int .i64 y3, .slice bL p dL, .slice bS r dS] → W.cell? ⟨gS, q * 6, none⟩ = some (.int .i64 z0) ∧ W.cell? ⟨gS, q * 6 + 1, none⟩ = some (.int .i64 z1) ∧ W.cell? ⟨gS, q * 6 + 2, none⟩ = some (.int .i64 z2) ∧ W.cell? ⟨gS, q * 6 + 3, none⟩ = some (.int .i64 z3) ∧ W.cell? ⟨gS, q * 6 + 4, none⟩ = some (.slice e1 n1 f1) ∧ W.cell? ⟨gS, q * 6 + 5, none⟩ = some (.slice e2 n2 f2)) ∧ Cnd w5 (.agg #[.int .i64 z0, .int .i64 z1, .int .i64 z2, .int .i64 z3, .slice e1 n1 f1, .slice e2 n2 f2]) F) := ⟨fun q hq => by
      match q, hq with
      | 0, _ => exact ⟨x0, x1, x2, x3, aL, n, cL, aS, m, cS, C, fun W b => ⟨b.cellv 0 rfl, b.cellv 1 rfl, b.cellv 2 rfl, b.cellv 3 rfl, b.cellv 4 rfl, b.cellv 5 rfl⟩, K0.out⟩
      | 1, _ => exact ⟨y0, y1, y2, y3, bL, p, dL, bS, r, dS, D, fun W b => ⟨b.cellv 6 rfl, b.cellv 7 rfl, b.cellv 8 rfl, b.cellv 9 rfl, b.cellv 10 rfl, b.cellv 11 rfl⟩, K1.out⟩⟩
    have HB5 : Hd (Below w3.heap.size w3 w5) := ⟨B5⟩
    have HS5 : Hd (Blk w5 gS 25 #[.int .i64 x0, .int .i64 x1, .int .i64 x2, .int .i64 x3, .slice aL n cL, .slice aS m cS, .int .i64 y0, .int .i64 y1, .int .i64 y2, .int .i64 y3, .slice bL p dL, .slice bS r dS] ∧ Below w5.heap.size w5 w5) := ⟨N5, Below.refl _ _⟩
    clear K0 K1 N5 B5
    go_wp2_with fail
    go_loopw [4, 5, 6, 7, 8, 19] (fun _ _ _ _ _ i W => ∃ q : Nat, q ≤ 2 ∧ i = .int .i64 q ∧ Hd (Blk W gS 25 #[.int .i64 x0, .int .i64 x1, .int .i64 x2, .int .i64 x3, .slice aL n cL, .slice aS m cS, .int .i64 y0, .int .i64 y1, .int .i64 y2, .int .i64 y3, .slice bL p dL, .slice bS r dS] ∧ Below w5.heap.size w5 W)) (fun _ _ _ _ _ i _ => 2 - (intOf i).toNat)
    case atStart => exact ⟨0, by omega, rfl, HS5⟩
    case round =>
      obtain ⟨q, hq, rfl, hS⟩ := hrel
      clear HS5
      by_cases hlt : q < 2
      · obtain ⟨z0, z1, z2, z3, e1, n1, f1, e2, n2, f2, F, hc, hF⟩ := HPQ.out q hlt
        obtain ⟨c0, c1, c2, c3, c4, c5⟩ := hc wr hS.out.1
        have HFF : Hd (∀ W, Below wr.heap.size wr W → Cnd W (.agg #[.int .i64 z0, .int .i64 z1, .int .i64 z2, .int .i64 z3, .slice e1 n1 f1, .slice e2 n2 f2]) F) := ⟨fun W b => (hF.carry hS.out.2).carry b⟩
        have HSS : Hd (∀ W, Below wr.heap.size wr W → Blk W gS 25 #[.int .i64 x0, .int .i64 x1, .int .i64 x2, .int .i64 x3, .slice aL n cL, .slice aS m cS, .int .i64 y0, .int .i64 y1, .int .i64 y2, .int .i64 y3, .slice bL p dL, .slice bS r dS] ∧ Below w5.heap.size w5 W) := ⟨fun W b => ⟨hS.out.1.kept (Kept.of_below b (fun _ => False)) id, hS.out.2.trans (b.mono hS.out.2.size)⟩⟩
        have HTT : Hd (∀ W, Below wr.heap.size wr W → ET W) := ⟨fun W b => HT3.out W (HB5.out.trans ((hS.out.2.trans (b.mono hS.out.2.size)).mono HB5.out.size))⟩
        have HQ : Hd (q < 2) := ⟨hlt⟩
        clear hF hc hS
        have AL6 := alloc_below wr (.cells #[.int .i64 z0, .int .i64 z1, .int .i64 z2, .int .i64 z3, .slice e1 n1 f1, .slice e2 n2 f2] 25)
        have N6 := Blk.new wr 25 #[.int .i64 z0, .int .i64 z1, .int .i64 z2, .int .i64 z3, .slice e1 n1 f1, .slice e2 n2 f2]
        go_upto_region 8 with fail
        clear c0 c1 c2 c3 c4 c5
        generalize wr.alloc (.cells #[.int .i64 z0, .int .i64 z1, .int .i64 z2, .int .i64 z3, .slice e1 n1 f1, .slice e2 n2 f2] 25) = w6 at *
        obtain ⟨g4, hg4⟩ : ∃ g, g = wr.heap.size := ⟨_, rfl⟩
        rw [← hg4] at N6 ⊢
        clear hg4
        obtain ⟨⟨c0, c1, c2, c3, c4, c5⟩, -⟩ := N6.six
        have CP := copy_ok _ F w6 (HFF.out w6 AL6).r ((HFF.out w6 AL6).bd.mono (by decide))
        go_wp2_with fail
        go_at_call 9
        refine CP.mono ?_
        rintro e w7 ⟨⟨v7, rfl, hcw⟩, b7⟩
        have B7 : Below wr.heap.size wr w7 := AL6.trans (b7.mono AL6.size)
        have N7 := N6.kept (Kept.of_below b7 (fun _ => False)) id
        have R7 := hcw.read (HFF.out w7 B7).ft
        have s7 : Six v7 := by
          obtain ⟨aL, cL, aS, cS, V0, rfl, -⟩ := R7.ex
          exact ⟨_, _, _, _, _, _, _, _, _, _, rfl⟩
        obtain ⟨h0, h1, h2, h3, i1, k1, j1, i2, k2, j2, rfl⟩ := s7
        have AL8 := alloc_below w7 (.cells #[.int .i64 h0, .int .i64 h1, .int .i64 h2, .int .i64 h3, .slice i1 k1 j1, .slice i2 k2 j2] 25)
        have N8 := Blk.new w7 25 #[.int .i64 h0, .int .i64 h1, .int .i64 h2, .int .i64 h3, .slice i1 k1 j1, .slice i2 k2 j2]
        have B8 : Below wr.heap.size wr (w7.alloc (.cells #[.int .i64 h0, .int .i64 h1, .int .i64 h2, .int .i64 h3, .slice i1 k1 j1, .slice i2 k2 j2] 25)) := B7.trans (AL8.mono B7.size)
        have M8 := N7.kept (Kept.of_below AL8 (fun _ => False)) id
        have HR8 : Hd (∀ W, Below (w7.alloc (.cells #[.int .i64 h0, .int .i64 h1, .int .i64 h2, .int .i64 h3, .slice i1 k1 j1, .slice i2 k2 j2] 25)).heap.size (w7.alloc (.cells #[.int .i64 h0, .int .i64 h1, .int .i64 h2, .int .i64 h3, .slice i1 k1 j1, .slice i2 k2 j2] 25)) W → CfR W (.agg #[.int .i64 h0, .int .i64 h1, .int .i64 h2, .int .i64 h3, .slice i1 k1 j1, .slice i2 k2 j2]) F) := ⟨fun W b => (R7.carry AL8).carry b⟩
        clear CP c0 c1 c2 c3 c4 c5 hcw b7 R7 N6 N7 AL8 B7
        go_upto_region 9 with fail
        generalize w7.alloc (.cells #[.int .i64 h0, .int .i64 h1, .int .i64 h2, .int .i64 h3, .slice i1 k1 j1, .slice i2 k2 j2] 25) = w8 at *
        generalize w7.heap.size = g5 at *
        obtain ⟨⟨d0, d1, d2, d3, d4, d5⟩, -⟩ := N8.six
        have CK := check_ok _ F w8 (HR8.out w8 (Below.refl _ _))
        go_wp2_with fail
        go_at_call 10
        refine CK.mono ?_
        rintro e w9 ⟨rfl, b9⟩
        have B9 : Below wr.heap.size wr w9 := B8.trans (b9.mono B8.size)
        have M9 := M8.kept (Kept.of_below b9 (fun _ => False)) id
        have N9 := N8.kept (Kept.of_below b9 (fun _ => False)) id
        have RC := rcheck_ok _ F w9 (HFF.out w9 B9).r (HFF.out w9 B9).g (HFF.out w9 B9).nm ((HFF.out w9 B9).bd.mono (by decide))
        have HR9 : Hd (∀ W, Below w9.heap.size w9 W → CfR W (.agg #[.int .i64 h0, .int .i64 h1, .int .i64 h2, .int .i64 h3, .slice i1 k1 j1, .slice i2 k2 j2]) F) := ⟨fun W b => HR8.out W (b9.trans (b.mono b9.size))⟩
        clear d0 d1 d2 d3 d4 d5 CK HR8 b9 M8 N8 B8
        obtain ⟨⟨c0, c1, c2, c3, c4, c5⟩, -⟩ := M9.six
        go_wp2_with fail
        go_at_call 11
        refine RC.mono ?_
        rintro e w10 ⟨rfl, b10⟩
        have B10 : Below wr.heap.size wr w10 := B9.trans (b10.mono B9.size)
        have M10 := M9.kept (Kept.of_below b10 (fun _ => False)) id
        have N10 := N9.kept (Kept.of_below b10 (fun _ => False)) id
        have CO := code_err (chk F) w10 (HTT.out w10 B10)
        have WH : Hd (∀ W, Below w10.heap.size w10 W → Calls Tryz.prog 13 #[errV (chk F)] W fun e w' => e = .returned (.string (chk F).2) ∧ Below W.heap.size W w') := ⟨fun W b => what_err (chk F) W (HTT.out W (B10.trans (b.mono B10.size))) (fun h => chk_txt h)⟩
        have HSM : Hd (∀ W, Below w10.heap.size w10 W → Calls Tryz.prog 14 #[.agg #[.int .i64 h0, .int .i64 h1, .int .i64 h2, .int .i64 h3, .slice i1 k1 j1, .slice i2 k2 j2], .agg #[.int .i64 z0, .int .i64 z1, .int .i64 z2, .int .i64 z3, .slice e1 n1 f1, .slice e2 n2 f2]] W fun e w' => e = .returned (.bool true) ∧ Below W.heap.size W w') := ⟨fun W b => by
          have := same_dec (HR9.out W (b10.trans (b.mono b10.size))) (HFF.out W (B10.trans (b.mono B10.size))).r
          rwa [@decide_eq_true (F = F) (Classical.propDecidable _) rfl] at this⟩
        clear RC c0 c1 c2 c3 c4 c5 HR9 b10 M9 N9 B9
        generalize chk F = pp at *
        obtain ⟨nn, ss⟩ := pp
        simp only at CO WH ⊢
        by_cases hn : nn = 0
        · subst hn
          rw [errV_nil] at CO WH ⊢
          have q3 : ((0 : Int) == 0) = true := rfl
          have q1 : ((0 : Int) != 0) = false := by simp
          have q2 : (ss.toList == ss.toList) = true := by simp
          go_wp2_with fail
          go_at_call 12
          refine CO.mono ?_
          rintro e w11 ⟨rfl, b11⟩
          go_wp2_with fail
          go_at_call 13
          refine (WH.out w11 b11).mono ?_
          rintro e w12 ⟨rfl, b12⟩
          have b12' : Below w10.heap.size w10 w12 := b11.trans (b12.mono b11.size)
          obtain ⟨⟨c0, c1, c2, c3, c4, c5⟩, -⟩ := (M10.kept (Kept.of_below b12' (fun _ => False)) id).six
          obtain ⟨⟨d0, d1, d2, d3, d4, d5⟩, -⟩ := (N10.kept (Kept.of_below b12' (fun _ => False)) id).six
          have SM := HSM.out w12 b12'
          have HB12 : Hd (Below wr.heap.size wr w12) := ⟨B10.trans (b12'.mono B10.size)⟩
          clear CO WH HSM b11 b12 b12'
          go_wp2_with fail
          go_at_call 14
          refine SM.mono ?_
          rintro e w13 ⟨rfl, b13⟩
          have HB13 : Hd (Below wr.heap.size wr w13) := ⟨HB12.out.trans (b13.mono HB12.out.size)⟩
          clear b13 SM
          go_wp2_with fail
          go_roundw
          case rel => exact ⟨q + 1, HQ.out, by go_num, ⟨HSS.out _ HB13.out⟩⟩
          case measure => have := HQ.out; simp [intOf]; omega
        · have ev : errV (nn, ss) = .iface 71 (.agg #[.int .i64 0, .string ss, .iface 35 (.int .i64 nn)]) := (if_neg hn).trans rfl
          rw [ev] at CO WH ⊢
          have q3 : (nn == 0) = false := by simp [hn]
          clear hn ev
          have q1 : (nn != nn) = false := by simp
          have q2 : (ss.toList == ss.toList) = true := by simp
          go_wp2_with fail
          go_at_call 12
          refine CO.mono ?_
          rintro e w11 ⟨rfl, b11⟩
          go_wp2_with fail
          go_at_call 13
          refine (WH.out w11 b11).mono ?_
          rintro e w12 ⟨rfl, b12⟩
          have b12' : Below w10.heap.size w10 w12 := b11.trans (b12.mono b11.size)
          obtain ⟨⟨c0, c1, c2, c3, c4, c5⟩, -⟩ := (M10.kept (Kept.of_below b12' (fun _ => False)) id).six
          obtain ⟨⟨d0, d1, d2, d3, d4, d5⟩, -⟩ := (N10.kept (Kept.of_below b12' (fun _ => False)) id).six
          have SM := HSM.out w12 b12'
          have HB12 : Hd (Below wr.heap.size wr w12) := ⟨B10.trans (b12'.mono B10.size)⟩
          clear CO WH HSM b11 b12 b12'
          go_wp2_with fail
          go_at_call 14
          refine SM.mono ?_
          rintro e w13 ⟨rfl, b13⟩
          have HB13 : Hd (Below wr.heap.size wr w13) := ⟨HB12.out.trans (b13.mono HB12.out.size)⟩
          clear b13 SM
          go_wp2_with fail
          go_roundw
          case rel => exact ⟨q + 1, HQ.out, by go_num, ⟨HSS.out _ HB13.out⟩⟩
          case measure => have := HQ.out; simp [intOf]; omega
      · obtain rfl : q = 2 := by omega
        have HB : Hd (Below w.heap.size w wr) := ⟨HB3.out.trans ((HB5.out.trans (hS.out.2.mono HB5.out.size)).mono HB3.out.size)⟩
        clear hS
        go_wp2_with fail
        go_ret
        exact ⟨rfl, HB.out⟩
end Go.Proofs.YtlkoaldekmdcoaaGreatDoor
