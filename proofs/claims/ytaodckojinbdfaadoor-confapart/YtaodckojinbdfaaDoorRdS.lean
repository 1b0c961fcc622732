/-
  What the reader's method 'schema' of the program does. Condition: the reader and the configuration lie in memory.
-/
import Derived.Test.YtaodckojinbdfaaDoorPush
namespace Go.Proofs.YtaodckojinbdfaaDoor
open Go.RowKit

theorem info42 : (Tryd.prog.info? 49).map (fun i => (i.zero, i.size, i.bytes)) = some (some (.agg #[.string ⟨#[]⟩, .string ⟨#[]⟩, .int .i64 0, .int .i64 0, .slice none 0 0]), 5, 72) := by kernel_rfl

set_option maxRecDepth 20000 in
set_option maxHeartbeats 4000000 in
theorem schema_rd {B R A : Nat} {C : Cf} {ws : List ByteArray} (w : World) (H : Rd B w R A ws 0) (K : Cfg B w A C) (hF : C.schemas.length ≤ 32) :
    Calls Tryd.prog 35 #[.pointer (some ⟨R, 0, none⟩)] w fun r w' => r = .returned (.tuple #[]) ∧ Told B R A w w' (schemaE C ws) ⟨C.total, C.period, C.perSeat, C.most, C.levels, C.schemas ++ [schemaOf ws]⟩ := by
  obtain ⟨i0, hi, hz0, hz1, hz2⟩ := info_parts info42
  obtain ⟨a, c, hb, hr, hc, h6⟩ := H.ex
  have c0 := hb.cellv 0 rfl
  have o9 : Off 9 (fun k => k = R) w := off_blk hb (by decide)
  have o26 : Off 30 (fun k => k = R) w := off_blk hb (by decide)
  have o39 : Off 46 (fun k => k = R) w := off_blk hb (by decide)
  have o42 : Off 49 (fun k => k = R) w := off_blk hb (by decide)
  have o73 : Off 51 (fun k => k = R) w := off_blk hb (by decide)
  obtain ⟨vL, vS, V, hA, hL, hS, hD⟩ := K.ex
  obtain ⟨aL, cL, rfl⟩ := own_form hS.own
  have hRA : R ≠ A := hb.ne hA (by decide)
  have HBA := K.le
  unfold schemaE schemaW schemaOf
  generalize hb0 : hasSc C (gt ws 0) = b
  generalize hq0 : isName (gt ws 0) = q0
  generalize hq1 : isName (gt ws 1) = q1
  generalize hn2 : numOf (gt ws 2) 1 10000 = n2
  generalize hq2 : numIn (gt ws 2) 1 10000 = q2
  generalize hn3 : byOf (gt ws 3) = n3
  generalize hq3 : byOk (gt ws 3) = q3
  generalize hx : gt ws 0 = x
  generalize hx1 : gt ws 1 = x1
  have HX : Hd (gt ws 0 = x) := ⟨hx⟩
  have HX1 : Hd (gt ws 1 = x1) := ⟨hx1⟩
  generalize hE : mu (mu (mu (mu (mu (mu (ifE ((ws.length : Int) == 4) 2) (ifE q0 4)) (ifE q1 4)) (ifE q2 8)) (ifE q3 2)) (ifE (!b) 5)) (ifE (decide ((C.schemas.length : Int) < 32)) 3) = E
  have HE : Hd (mu (mu (mu (mu (mu (mu (ifE ((ws.length : Int) == 4) 2) (ifE q0 4)) (ifE q1 4)) (ifE q2 8)) (ifE q3 2)) (ifE (!b) 5)) (ifE (decide ((C.schemas.length : Int) < 32)) 3) = E) := ⟨hE⟩
  clear hE hx hx1 hr hc
  have M1 := must_ok w H ((ws.length : Int) == 4) 2
  rw [mu_zero] at M1
  go_enter Tryd.func35, Tryd.ntmps35
  go_wp2_with fail
  go_at_call 37
  refine M1.mono ?_
  rintro r v0 ⟨rfl, hv0, kv0⟩
  clear M1 c0
  have hgR0 : v0.heap.size ≠ R := fun e => by have := hv0.lt; omega
  have hgA0 : v0.heap.size ≠ A := fun e => by have := (hA.off kv0 o26).lt; omega
  obtain ⟨w0, hw0⟩ : ∃ w0, w0 = v0.alloc (.cells #[.string ⟨#[]⟩, .string ⟨#[]⟩, .int .i64 0, .int .i64 0, .slice none 0 0] 49) := ⟨_, rfl⟩
  have b0 : Below v0.heap.size v0 w0 := by rw [hw0]; exact (Below.refl _ _).alloc (Nat.le_refl _) _
  have g0 : Blk w0 v0.heap.size 49 #[.string ⟨#[]⟩, .string ⟨#[]⟩, .int .i64 0, .int .i64 0, .slice none 0 0] := by rw [hw0]; exact Blk.new v0 49 _
  have h0 := hv0.grown b0
  have k0 : Kept (fun k => k = R) w w0 := kv0.trans (Kept.of_below b0 _)
  go_wp2_with fail
  rw [← hw0]
  obtain ⟨g, hg⟩ : ∃ g, g = v0.heap.size := ⟨_, rfl⟩
  rw [← hg] at g0 hgR0 hgA0 ⊢
  have HG : Hd (w.heap.size ≤ g) := ⟨by have := kv0.size; omega⟩
  have hgR := hgR0
  have hgA := hgA0
  have hRg := hgR.symm
  have hAg := hgA.symm
  clear hw0 hg b0 hgR0 hgA0 hv0 kv0
  have CC := name_rd w0 h0
  rw [hq0, HX.out] at CC
  go_at_call 49
  refine CC.mono ?_
  rintro r w1 ⟨rfl, h1, q1x⟩
  have g1 := g0.kept q1x hgR
  have k1 := k0.trans q1x
  clear h0 g0 k0 q1x CC
  have z := g1.cellv 0 rfl
  have f := g1.frozen 0
  go_wp2_with fail
  have h2 := h1.other g1 (by decide) (by decide) 0 (.string x)
  have g2 : Blk (w1.setCell ⟨g, 0, none⟩ (.string x)) g 49 #[.string x, .string ⟨#[]⟩, .int .i64 0, .int .i64 0, .slice none 0 0] := g1.set 0 _
  have k2 := k1.setCell ⟨g, 0, none⟩ (.string x) (.inr HG.out)
  generalize (w1.setCell ⟨g, 0, none⟩ (.string x)) = w2 at h2 g2 k2 ⊢
  clear h1 g1 k1 z f
  have CC := name_rd w2 h2
  rw [gt_tail, hq1, HX1.out] at CC
  go_at_call 49
  refine CC.mono ?_
  rintro r w3 ⟨rfl, h3, q3x⟩
  have g3 := g2.kept q3x hgR
  have k3 := k2.trans q3x
  clear h2 g2 k2 q3x CC
  have z := g3.cellv 1 rfl
  have f := g3.frozen 1
  go_wp2_with fail
  have h4 := h3.other g3 (by decide) (by decide) 1 (.string x1)
  have g4 : Blk (w3.setCell ⟨g, 1, none⟩ (.string x1)) g 49 #[.string x, .string x1, .int .i64 0, .int .i64 0, .slice none 0 0] := g3.set 1 _
  have k4 := k3.setCell ⟨g, 1, none⟩ (.string x1) (.inr HG.out)
  generalize (w3.setCell ⟨g, 1, none⟩ (.string x1)) = w4 at h4 g4 k4 ⊢
  clear h3 g3 k3 z f
  have CC := number_rd w4 h4 1 10000
  rw [gt_tail, gt_tail, hn2, hq2] at CC
  go_at_call 46
  refine CC.mono ?_
  rintro r w5 ⟨rfl, h5, q5x⟩
  have g5 := g4.kept q5x hgR
  have k5 := k4.trans q5x
  clear h4 g4 k4 q5x CC
  have z := g5.cellv 2 rfl
  have f := g5.frozen 2
  go_wp2_with fail
  have h6 := h5.other g5 (by decide) (by decide) 2 (.int .i64 n2)
  have g6 : Blk (w5.setCell ⟨g, 2, none⟩ (.int .i64 n2)) g 49 #[.string x, .string x1, .int .i64 n2, .int .i64 0, .slice none 0 0] := g5.set 2 _
  have k6 := k5.setCell ⟨g, 2, none⟩ (.int .i64 n2) (.inr HG.out)
  generalize (w5.setCell ⟨g, 2, none⟩ (.int .i64 n2)) = w6 at h6 g6 k6 ⊢
  clear h5 g5 k5 z f
  have CC := by_rd w6 h6
  rw [gt_tail, gt_tail, gt_tail, hn3, hq3] at CC
  go_at_call 53
  refine CC.mono ?_
  rintro r w7 ⟨rfl, h7, q7x⟩
  have g7 := g6.kept q7x hgR
  have k7 := k6.trans q7x
  clear h6 g6 k6 q7x CC
  have z := g7.cellv 3 rfl
  have f := g7.frozen 3
  obtain ⟨ax, cx, hbx, -⟩ := h7.ex
  have d1 := hbx.cellv 1 rfl
  have hAx := hA.off k7 o26
  have d4 := hAx.cellv 5 rfl
  clear hbx hAx
  have hmf : ∀ (fn : Fn) (first cap : Array Value) (w : World), (Instr.makeFunc fn first cap).run Tryd.prog w = .ok (.func fn first cap) w := fun _ _ _ _ => rfl
  go_wp2_with fail
  clear d1 d4
  have h8 := h7.other g7 (by decide) (by decide) 3 (.int .i64 n3)
  have g8 : Blk (w7.setCell ⟨g, 3, none⟩ (.int .i64 n3)) g 49 #[.string x, .string x1, .int .i64 n2, .int .i64 n3, .slice none 0 0] := g7.set 3 _
  have k8 := k7.setCell ⟨g, 3, none⟩ (.int .i64 n3) (.inr HG.out)
  generalize (w7.setCell ⟨g, 3, none⟩ (.int .i64 n3)) = w8 at h8 g8 k8 ⊢
  clear h7 g7 k7 z f
  have CC := hasSc_ok g x w8 (g8.cellv 0 rfl) (hS.off k8 o9 o42 o73) (by omega)
  rw [show (C.schemas.any fun l => decide (l.name = x)) = b by rw [← hb0, ← HX.out]; rfl] at CC
  go_at_call 54
  refine CC.mono ?_
  rintro r w9 ⟨rfl, bb⟩
  have h9 := h8.grown bb
  have g9 := g8.kept (Kept.of_below bb (fun _ => False)) id
  have k9 := k8.trans (Kept.of_below bb _)
  clear h8 g8 k8 bb CC
  have CC := must_ok w9 h9 (!b) 5
  go_wp2_with fail
  go_at_call 37
  refine CC.mono ?_
  rintro r w10 ⟨rfl, h10, qq⟩
  have g10 := g9.kept qq hgR
  have k10 := k9.trans qq
  clear h9 g9 k9 qq CC
  obtain ⟨ax, cx, hbx, -⟩ := h10.ex
  have d1 := hbx.cellv 1 rfl
  have hAx := hA.off k10 o26
  have d4 := hAx.cellv 5 rfl
  clear hbx hAx
  have CC := must_ok w10 h10 (decide ((C.schemas.length : Int) < 32)) 3
  rw [HE.out] at CC
  go_wp2_with fail
  clear d1 d4
  go_at_call 37
  refine CC.mono ?_
  rintro r w9 ⟨rfl, h9, qq⟩
  have g9 := g10.kept qq hgR
  have k9 := k10.trans qq
  clear h10 g10 k10 qq CC
  have F := fine_ok w9 h9
  by_cases hE0 : E = 0
  · subst hE0
    have hn16 : (C.schemas.length : Int) < 32 := of_decide_eq_true ((ifE_eq_zero (by decide)).1 (mu_eq_zero.1 HE.out).2)
    have hn16' : C.schemas.length < 32 := by omega
    have KW := H.kt k9
    have hA9 := hA.off k9 o26
    have hL9 := hL.off k9 o39
    have hS9 := hS.off k9 o9 o42 o73
    obtain ⟨csR, hbx, hc1⟩ : ∃ cs, Blk w9 R 58 cs ∧ cs[1]? = some (.pointer (some ⟨A, 0, none⟩)) := by
      obtain ⟨ax, cx, hbx, -⟩ := h9.ex
      exact ⟨_, hbx, rfl⟩
    have d1 := hbx.cellv 1 hc1
    have d4 := hA9.cellv 5 rfl
    have f4 := hA9.frozen 5
    have z0 := g9.cellv 0 rfl
    have z1 := g9.cellv 1 rfl
    have z2 := g9.cellv 2 rfl
    have z3 := g9.cellv 3 rfl
    have z4 := g9.cellv 4 rfl
    have hg9 := g9.lt
    have hA9l := hA9.lt
    have hbxl := hbx.lt
    have OWN : (w9.drew.alloc (.cells #[.string x, .string x1, .int .i64 n2, .int .i64 n3, .slice none 0 0] 49)).ownsRow B 49 5 (.slice aL C.schemas.length cL) C.schemas.length (scCs C.schemas V) := World.ownsRow.alloc hS9.own _
    have NEWS : ∀ j u, ([.string x, .string x1, .int .i64 n2, .int .i64 n3, .slice none 0 0] : List Value)[j]? = some u → (w9.drew.alloc (.cells #[.string x, .string x1, .int .i64 n2, .int .i64 n3, .slice none 0 0] 49)).cell? ((⟨w9.heap.size, 0, none⟩ : Addr).add j) = some u := World.news_of_block (cs := #[.string x, .string x1, .int .i64 n2, .int .i64 n3, .slice none 0 0]) (t := 49) (fr := (0, 0)) (Blk.new w9.drew 49 _)
    have ONE : ∀ u ∈ ([.string x, .string x1, .int .i64 n2, .int .i64 n3, .slice none 0 0] : List Value), u.oneCell' = true := by
      intro u hu
      simp only [List.mem_cons, List.not_mem_nil, or_false] at hu
      rcases hu with rfl | rfl | rfl | rfl | rfl <;> rfl
    have PL := fun q cap w8 hown hgrow => push_sc (q := q) (cap := cap) (w8 := w8) (s := ⟨x, x1, n2, n3, []⟩) (o := .cells #[.string x, .string x1, .int .i64 n2, .int .i64 n3, .slice none 0 0] 49) h9 HBA KW rfl hA9 hL9 hS9 hown hgrow
    have far : ∀ w8 : World, (w9.drew.alloc (.cells #[.string x, .string x1, .int .i64 n2, .int .i64 n3, .slice none 0 0] 49)).grownBy w8 (Value.slice aL C.schemas.length cL).ownBlock → w8.cell? ⟨A, 5, none⟩ = some (.slice aL C.schemas.length cL) ∧ w8.frozen? ⟨A, 5, none⟩ = false ∧ w8.cell? ⟨R, 1, none⟩ = some (.pointer (some ⟨A, 0, none⟩)) := fun w8 hg8 => by
      have h1 := hA9.off (grown_kept hg8) (off_own hS9.own (by decide))
      have h2 := hbx.off (grown_kept hg8) (off_own hS9.own (by decide))
      exact ⟨h1.cellv 5 rfl, h1.frozen 5, h2.cellv 1 hc1⟩
    have HP : Hd (∀ (q cap : Nat) (w8 : World), _ → _ → _) := ⟨PL⟩
    have hBw : B ≤ w9.heap.size + 1 := by omega
    clear PL hA9 hL9 hS9 hbx h9 g9 k9 KW hL hS hA hD HE hb o9 o26 o39 o42 o73 H K
    go_wp2_with (go_at_call 47; refine F.mono ?_; rintro e w' ⟨rfl, hw⟩; obtain rfl := hw.symm)
    go_region_law (refine step_append_lies _ rfl (.tmp 60) (.tmp 62) 28 rfl B 49 i0 (.agg #[.string ⟨#[]⟩, .string ⟨#[]⟩, .int .i64 0, .int .i64 0, .slice none 0 0]) 5 72 Tryd.underlying28 hi hz0 hz1 hz2 rfl (by decide) _ C.schemas.length (scCs C.schemas V) (by simp [Act.eval]) OWN ⟨w9.heap.size, 0, none⟩ 1 1 [.string x, .string x1, .int .i64 n2, .int .i64 n3, .slice none 0 0] (by simp [Act.eval]) rfl NEWS ONE (by decide) (by unfold maxLen; omega) (by omega) (by simp; omega) _ rfl ?_; intro q cap w8 hown hgrow hat hlt; obtain ⟨y4, fy4, y1⟩ := far w8 hgrow)
    all_goals
      go_wp2
      go_end0
      exact ⟨rfl, HP.out _ _ _ hown hgrow⟩
  · have e0 : (E == 0) = false := by simpa using hE0
    rw [e0] at F
    have R3 : Hd (Told B R A w w9 E ⟨C.total, C.period, C.perSeat, C.most, C.levels, C.schemas ++ [⟨x, x1, n2, n3, []⟩]⟩) := ⟨⟨_, h9⟩, fun h => absurd h hE0, H.kt k9⟩
    clear h9 g9 k9 hL hS hA hD HE hb o9 o26 o39 o42 o73 H K
    go_wp2_with (go_at_call 47; refine F.mono ?_; rintro e w' ⟨rfl, hw⟩; obtain rfl := hw.symm)
    go_end0
    exact ⟨rfl, R3.out⟩

end Go.Proofs.YtaodckojinbdfaaDoor
