/-
  'MatchWider' answers true. Condition: rule, request and texts lie in memory.
-/
import Derived.Test.YtendblngcbknpaaOp
import Derived.Test.YtendblngcbknpaaWi
import Derived.Test.YtendblngcbknpaaOrQ
import Derived.Deep.CutBlock
import Derived.Deep.DeepCutAuto
namespace Go.Proofs.Ytendblngcbknpaa
open Go.RowKit

/-- A list stays where a box of lists is written. -/
theorem LsR.keptC {w w' : World} {g : Nat} {v : Value} {L : List ByteArray} (h : LsR w v L) (k : Kept (fun k => k = g) w w') (N : Blk w g 39 #[.slice none 0 0, .slice none 0 0, .slice none 0 0, .slice none 0 0, .slice none 0 0]) : LsR w' v L := by
  obtain ⟨a', c', e, hr, rest⟩ := h
  refine ⟨a', c', e, fun hn => ?_, rest⟩
  obtain ⟨b', off', e', hb, hc⟩ := hr hn
  have ne : ¬ b' = g := fun he => by
    subst he
    have h0 := hc 0 hn
    rw [N.cell] at h0
    match h : off' + 0 with
    | 0 => rw [h] at h0; cases h0
    | 1 => rw [h] at h0; cases h0
    | 2 => rw [h] at h0; cases h0
    | 3 => rw [h] at h0; cases h0
    | 4 => rw [h] at h0; cases h0
    | n + 5 => rw [h] at h0; simp at h0
  refine ⟨b', off', e', Nat.lt_of_lt_of_le hb k.size, fun j hj => ?_⟩
  have := hc j hj
  unfold World.cell? at this ⊢
  rw [k.block b' hb ne]
  exact this
theorem wid_fin {w2 W : World} {g : Nat} {v0 v1 v2 v3 v4 : Value} {r : Rl} (hg : w2.heap.size ≤ g) (b : Below w2.heap.size w2 W) (N : Blk W g 39 #[.slice none 0 0, .slice none 0 0, .slice none 0 0, .slice none 0 0, .slice none 0 0]) (h : RuR W v0 v1 v2 v3 v4 r) :
    Below w2.heap.size w2 (((((W.setCell ⟨g, 0, none⟩ v0).setCell ⟨g, 1, none⟩ v1).setCell ⟨g, 2, none⟩ v2).setCell ⟨g, 3, none⟩ v3).setCell ⟨g, 4, none⟩ v4)
    ∧ Blk (((((W.setCell ⟨g, 0, none⟩ v0).setCell ⟨g, 1, none⟩ v1).setCell ⟨g, 2, none⟩ v2).setCell ⟨g, 3, none⟩ v3).setCell ⟨g, 4, none⟩ v4) g 39 #[v0, v1, v2, v3, v4]
    ∧ RuR (((((W.setCell ⟨g, 0, none⟩ v0).setCell ⟨g, 1, none⟩ v1).setCell ⟨g, 2, none⟩ v2).setCell ⟨g, 3, none⟩ v3).setCell ⟨g, 4, none⟩ v4) v0 v1 v2 v3 v4 r := by
  have K : Kept (fun k => k = g) W (((((W.setCell ⟨g, 0, none⟩ v0).setCell ⟨g, 1, none⟩ v1).setCell ⟨g, 2, none⟩ v2).setCell ⟨g, 3, none⟩ v3).setCell ⟨g, 4, none⟩ v4) := (((((Kept.refl (fun k => k = g) W).setCell _ _ (.inl rfl)).setCell _ _ (.inl rfl)).setCell _ _ (.inl rfl)).setCell _ _ (.inl rfl)).setCell _ _ (.inl rfl)
  refine ⟨b.trans (K.below b.size (fun k hk => by omega)), ?_, h.1.keptC K N, h.2.1.keptC K N, h.2.2.1.keptC K N, h.2.2.2.1.keptC K N, h.2.2.2.2.keptC K N⟩
  have := ((((N.set 0 v0).set 1 v1).set 2 v2).set 3 v3).set 4 v4
  simpa using this
theorem boxes3 (w : World) (t1 t2 t3 : Nat) (x y z : Array Value) : Below w.heap.size w (((w.alloc (.cells x t1)).alloc (.cells y t2)).alloc (.cells z t3)) ∧ Blk (((w.alloc (.cells x t1)).alloc (.cells y t2)).alloc (.cells z t3)) w.heap.size t1 x ∧ Blk (((w.alloc (.cells x t1)).alloc (.cells y t2)).alloc (.cells z t3)) (w.heap.size + 1) t2 y ∧ Blk (((w.alloc (.cells x t1)).alloc (.cells y t2)).alloc (.cells z t3)) (w.heap.size + 1 + 1) t3 z := by
  obtain ⟨b, n1, n2⟩ := boxes w t1 t2 x y
  have n3 := alloc_new (w.alloc (.cells x t1)) (.cells y t2) t3 z
  exact ⟨b.trans ((alloc_below _ _).mono b.size), n1.alloc _, n2.alloc _, by simpa using n3⟩
/-- What the region that makes the wider rule leaves. -/
structure Wd5 (w2 : World) (r : Rl) (s7 : Value) (W : World) : Prop where
  ex : ∃ g a0 n0 c0 a1 n1 c1 a2 n2 c2 a3 n3 c3 a4 n4 c4, s7 = .pointer (some ⟨g, 0, none⟩) ∧ Below w2.heap.size w2 W ∧ Blk W g 39 #[.slice a0 n0 c0, .slice a1 n1 c1, .slice a2 n2 c2, .slice a3 n3 c3, .slice a4 n4 c4] ∧ RuR W (.slice a0 n0 c0) (.slice a1 n1 c1) (.slice a2 n2 c2) (.slice a3 n3 c3) (.slice a4 n4 c4) r

set_option maxRecDepth 20000 in
set_option maxHeartbeats 16000000 in
theorem wider_law {a0 a1 a2 a3 a4 ag : Option Addr} {n0 n1 n2 n3 n4 ng c0 c1 c2 c3 c4 cg : Nat} {x0 x2 x3 x4 : ByteArray} {x5 : Int} {y0 y1 y2 y3 y4 : ByteArray} (r : Rl) (L : List ByteArray) (w : World) (hr : RuR w (.slice a0 n0 c0) (.slice a1 n1 c1) (.slice a2 n2 c2) (.slice a3 n3 c3) (.slice a4 n4 c4) r) (hq : RqR w (.agg #[.string x0, .slice ag ng cg, .string x2, .string x3, .string x4, .int .i64 x5]) ⟨x0, L, x2, x3, x4, x5⟩)
    (hy0 : y0.size ≤ 9223372036854775807) (hy1 : y1.size ≤ 9223372036854775807) (hy2 : y2.size ≤ 9223372036854775807) (hy3 : y3.size ≤ 9223372036854775807) (hy4 : y4.size ≤ 9223372036854775807) :
    Calls Try.prog 4 #[.agg #[.slice a0 n0 c0, .slice a1 n1 c1, .slice a2 n2 c2, .slice a3 n3 c3, .slice a4 n4 c4], .agg #[.string x0, .slice ag ng cg, .string x2, .string x3, .string x4, .int .i64 x5], .agg #[.string y0, .string y1, .string y2, .string y3, .string y4]] w fun e w' => e = .returned (.bool true) ∧ Below w.heap.size w w' := by
  obtain ⟨w2, hw2⟩ : ∃ w2, w2 = ((w.alloc (.cells #[.slice a0 n0 c0, .slice a1 n1 c1, .slice a2 n2 c2, .slice a3 n3 c3, .slice a4 n4 c4] 39)).alloc (.cells #[.string x0, .slice ag ng cg, .string x2, .string x3, .string x4, .int .i64 x5] 27)).alloc (.cells #[.string y0, .string y1, .string y2, .string y3, .string y4] 44) := ⟨_, rfl⟩
  have BX := boxes3 w 39 27 44 #[.slice a0 n0 c0, .slice a1 n1 c1, .slice a2 n2 c2, .slice a3 n3 c3, .slice a4 n4 c4] #[.string x0, .slice ag ng cg, .string x2, .string x3, .string x4, .int .i64 x5] #[.string y0, .string y1, .string y2, .string y3, .string y4]
  rw [← hw2] at BX
  obtain ⟨B, N1, N2, N3⟩ := BX
  have HW : Hd (∀ W, Below w2.heap.size w2 W → Blk W w.heap.size 39 #[.slice a0 n0 c0, .slice a1 n1 c1, .slice a2 n2 c2, .slice a3 n3 c3, .slice a4 n4 c4] ∧ Blk W (w.heap.size + 1) 27 #[.string x0, .slice ag ng cg, .string x2, .string x3, .string x4, .int .i64 x5] ∧ Blk W (w.heap.size + 1 + 1) 44 #[.string y0, .string y1, .string y2, .string y3, .string y4] ∧ Below w.heap.size w W ∧ RuR W (.slice a0 n0 c0) (.slice a1 n1 c1) (.slice a2 n2 c2) (.slice a3 n3 c3) (.slice a4 n4 c4) r ∧ RqR W (.agg #[.string x0, .slice ag ng cg, .string x2, .string x3, .string x4, .int .i64 x5]) ⟨x0, L, x2, x3, x4, x5⟩) :=
    ⟨fun W b => ⟨N1.kept (Kept.of_below b (fun _ => False)) id, N2.kept (Kept.of_below b (fun _ => False)) id, N3.kept (Kept.of_below b (fun _ => False)) id, B.trans (b.mono B.size), (hr.carry B).carry b, (hq.carry B).carry b⟩⟩
  have HG : Hd (∀ W, Below w2.heap.size w2 W → LsR W (.slice ag ng cg) L) := ⟨fun W b => by
    obtain ⟨a', n', c', e', hl⟩ := ((hq.carry B).carry b).ex
    simp only [Value.agg.injEq] at e'
    have := (Array.mk.injEq _ _).mp e'
    simp at this
    obtain ⟨rfl, rfl, rfl⟩ := this
    exact hl⟩
  have HY : Hd (y0.size ≤ 9223372036854775807 ∧ y1.size ≤ 9223372036854775807 ∧ y2.size ≤ 9223372036854775807 ∧ y3.size ≤ 9223372036854775807 ∧ y4.size ≤ 9223372036854775807) := ⟨hy0, hy1, hy2, hy3, hy4⟩
  have AW := awake_ok w2
  clear N1 N2 N3 B hr hq hy0 hy1 hy2 hy3 hy4
  go_enter Try.func4, Try.ntmps4
  go_upto_region 1 with fail
  rw [← hw2]
  clear hw2
  generalize w.heap.size + 1 + 1 = A3 at *
  generalize w.heap.size + 1 = A2 at *
  obtain ⟨A1, hA1⟩ : ∃ A1, A1 = w.heap.size := ⟨_, rfl⟩
  have HW' : Hd (∀ W, Below w2.heap.size w2 W → Blk W A1 39 #[.slice a0 n0 c0, .slice a1 n1 c1, .slice a2 n2 c2, .slice a3 n3 c3, .slice a4 n4 c4] ∧ Blk W A2 27 #[.string x0, .slice ag ng cg, .string x2, .string x3, .string x4, .int .i64 x5] ∧ Blk W A3 44 #[.string y0, .string y1, .string y2, .string y3, .string y4] ∧ Below w.heap.size w W ∧ RuR W (.slice a0 n0 c0) (.slice a1 n1 c1) (.slice a2 n2 c2) (.slice a3 n3 c3) (.slice a4 n4 c4) r ∧ RqR W (.agg #[.string x0, .slice ag ng cg, .string x2, .string x3, .string x4, .int .i64 x5]) ⟨x0, L, x2, x3, x4, x5⟩) := ⟨by rw [hA1]; exact HW.out⟩
  rw [← hA1]
  clear hA1 HW
  go_upto_region 3 with (go_at_call 7; refine AW.mono ?_; rintro e w3 ⟨rfl, b3⟩; clear AW)
  obtain ⟨N1, N2, -, B3, R3, Q3⟩ := HW'.out w3 b3
  have e0 := N1.cellv (v := .slice a0 n0 c0) 0 rfl
  have e1 := N1.cellv (v := .slice a1 n1 c1) 1 rfl
  have e2 := N1.cellv (v := .slice a2 n2 c2) 2 rfl
  have e3 := N1.cellv (v := .slice a3 n3 c3) 3 rfl
  have e4 := N1.cellv (v := .slice a4 n4 c4) 4 rfl
  obtain ⟨bu, M1, M2⟩ := boxes w3 39 24 #[.slice a0 n0 c0, .slice a1 n1 c1, .slice a2 n2 c2, .slice a3 n3 c3, .slice a4 n4 c4] #[.string ⟨#[]⟩, .string ⟨#[]⟩, .int .i64 0, .int .i64 0, .slice (some ⟨w3.heap.size, 0, none⟩) 1 1]
  have SM := small_any _ _ _ (cf_one M2 (rl_one M1 (R3.carry bu)) (by decide) (by decide))
  have HU : Hd (Below w3.heap.size w3 ((w3.alloc (.cells #[.slice a0 n0 c0, .slice a1 n1 c1, .slice a2 n2 c2, .slice a3 n3 c3, .slice a4 n4 c4] 39)).alloc (.cells #[.string ⟨#[]⟩, .string ⟨#[]⟩, .int .i64 0, .int .i64 0, .slice (some ⟨w3.heap.size, 0, none⟩) 1 1] 24))) := ⟨bu⟩
  have H3 : Hd (Below w2.heap.size w2 w3) := ⟨b3⟩
  clear N1 N2 B3 R3 Q3 bu M1 M2 b3
  go_wp2_with fail
  refine SM.mono ?_
  rintro e w4 ⟨⟨b, rfl, hbn⟩, b4⟩
  have b4' : Below w2.heap.size w2 w4 := H3.out.trans ((HU.out.trans (b4.mono HU.out.size)).mono H3.out.size)
  have HBN : Hd _ := ⟨hbn⟩
  clear SM b4 HU H3 e0 e1 e2 e3 e4 hbn
  obtain ⟨N1, N2, -, B4, R4, Q4⟩ := HW'.out w4 b4'
  cases b with
  | false =>
    clear N1 N2 R4 Q4 b4'
    go_wp2_with fail
    go_ret
    exact ⟨rfl, B4⟩
  | true =>
    have HRN : Hd (RlN 80 r) := ⟨(bnd_rules (HBN.out rfl)).2 r (List.mem_singleton.2 rfl)⟩
    have SQ := smallQ_ok _ _ w4 Q4
    have d0 := N2.cellv (v := .string x0) 0 rfl
    have d1 := N2.cellv (v := .slice ag ng cg) 1 rfl
    have d2 := N2.cellv (v := .string x2) 2 rfl
    have d3 := N2.cellv (v := .string x3) 3 rfl
    have d4 := N2.cellv (v := .string x4) 4 rfl
    have d5 := N2.cellv (v := .int .i64 x5) 5 rfl
    have H4 : Hd (Below w2.heap.size w2 w4) := ⟨b4'⟩
    clear N1 N2 B4 R4 Q4 b4' HBN
    go_wp2_with fail
    refine SQ.mono ?_
    rintro e w5 ⟨⟨b, rfl, -⟩, b5⟩
    have b5' : Below w2.heap.size w2 w5 := H4.out.trans (b5.mono H4.out.size)
    clear SQ b5 H4 d0 d1 d2 d3 d4 d5
    have B5 := (HW'.out w5 b5').2.2.2.1
    cases b with
    | false =>
      clear b5'
      go_wp2_with fail
      go_ret
      exact ⟨rfl, B5⟩
    | true =>
      have HWI : Hd (∀ W, Below w2.heap.size w2 W → (Calls Try.prog 20 #[.slice a0 n0 c0, .string y0] W fun e w' => Wi W (widL r.users y0) e w') ∧ (Calls Try.prog 20 #[.slice a1 n1 c1, .string y1] W fun e w' => Wi W (widL r.groups y1) e w') ∧ (Calls Try.prog 20 #[.slice a2 n2 c2, .string y2] W fun e w' => Wi W (widL r.verbs y2) e w') ∧ (Calls Try.prog 20 #[.slice a3 n3 c3, .string y3] W fun e w' => Wi W (widL r.resources y3) e w') ∧ (Calls Try.prog 20 #[.slice a4 n4 c4, .string y4] W fun e w' => Wi W (widL r.spaces y4) e w')) := ⟨fun W b => by
        obtain ⟨-, -, -, -, R, -⟩ := HW'.out W b
        obtain ⟨r0, r1, r2, r3, r4⟩ := HRN.out
        obtain ⟨z0, z1, z2, z3, z4⟩ := HY.out
        exact ⟨wider_ok _ _ _ _ _ W R.1 (by omega) z0, wider_ok _ _ _ _ _ W R.2.1 (by omega) z1, wider_ok _ _ _ _ _ W R.2.2.1 (by omega) z2, wider_ok _ _ _ _ _ W R.2.2.2.1 (by omega) z3, wider_ok _ _ _ _ _ W R.2.2.2.2 (by omega) z4⟩⟩
      have HC : Hd (∀ W, Below w2.heap.size w2 W → Blk W A1 39 #[.slice a0 n0 c0, .slice a1 n1 c1, .slice a2 n2 c2, .slice a3 n3 c3, .slice a4 n4 c4] ∧ Blk W A3 44 #[.string y0, .string y1, .string y2, .string y3, .string y4]) := ⟨fun W b => ⟨(HW'.out W b).1, (HW'.out W b).2.2.1⟩⟩
      clear HRN HY B5
      go_upto_region 5 with fail
      go_cut [7] from 22 to 47 (fun s7 wx => Wd5 w2 ⟨widL r.users y0, widL r.groups y1, widL r.verbs y2, widL r.resources y3, widL r.spaces y4⟩ s7 wx)
      case first =>
        clear HW' HG
        have DR : Below w5.heap.size w5 w5.drew := ⟨rfl, rfl, rfl, Nat.le_refl _, fun _ _ => rfl⟩
        have b0 : Below w2.heap.size w2 w5.drew := b5'.trans (DR.mono b5'.size)
        refine AnyG.start (T := fun W => Below w2.heap.size w2 W) (U := fun _ => True) (j0 := 100) (by kernel_rfl) ?_
        clear DR b5'
        generalize w5.drew = w0 at *
        have bw0 := b0
        refine .tq 0 22 b0 ?_; simp only [tkA, tkB, tkC]
        refine .tq 1 23 b0 ?_ (hy := fun w hSw => by have s := (HC.out w hSw).1.cellv (v := .slice a0 n0 c0) 0 rfl; go_simp; rfl); simp only [tkA, tkB, tkC]
        refine .tq 2 24 b0 ?_; simp only [tkA, tkB, tkC]
        refine .tq 3 25 b0 ?_ (hy := fun w hSw => by have s := (HC.out w hSw).2.cellv (v := .string y0) 0 rfl; go_simp; rfl); simp only [tkA, tkB, tkC]
        refine .tq 5 27 b0 ?_; simp only [tkA, tkB, tkC]
        refine .tq 6 28 b0 ?_ (hy := fun w hSw => by have s := (HC.out w hSw).1.cellv (v := .slice a1 n1 c1) 1 rfl; go_simp; rfl); simp only [tkA, tkB, tkC]
        refine .tq 7 29 b0 ?_; simp only [tkA, tkB, tkC]
        refine .tq 8 30 b0 ?_ (hy := fun w hSw => by have s := (HC.out w hSw).2.cellv (v := .string y1) 1 rfl; go_simp; rfl); simp only [tkA, tkB, tkC]
        refine .tq 10 32 b0 ?_; simp only [tkA, tkB, tkC]
        refine .tq 11 33 b0 ?_ (hy := fun w hSw => by have s := (HC.out w hSw).1.cellv (v := .slice a2 n2 c2) 2 rfl; go_simp; rfl); simp only [tkA, tkB, tkC]
        refine .tq 12 34 b0 ?_; simp only [tkA, tkB, tkC]
        refine .tq 13 35 b0 ?_ (hy := fun w hSw => by have s := (HC.out w hSw).2.cellv (v := .string y2) 2 rfl; go_simp; rfl); simp only [tkA, tkB, tkC]
        refine .tq 15 37 b0 ?_; simp only [tkA, tkB, tkC]
        refine .tq 16 38 b0 ?_ (hy := fun w hSw => by have s := (HC.out w hSw).1.cellv (v := .slice a3 n3 c3) 3 rfl; go_simp; rfl); simp only [tkA, tkB, tkC]
        refine .tq 17 39 b0 ?_; simp only [tkA, tkB, tkC]
        refine .tq 18 40 b0 ?_ (hy := fun w hSw => by have s := (HC.out w hSw).2.cellv (v := .string y3) 3 rfl; go_simp; rfl); simp only [tkA, tkB, tkC]
        refine .tq 20 42 b0 ?_; simp only [tkA, tkB, tkC]
        refine .tq 21 43 b0 ?_ (hy := fun w hSw => by have s := (HC.out w hSw).1.cellv (v := .slice a4 n4 c4) 4 rfl; go_simp; rfl); simp only [tkA, tkB, tkC]
        refine .tq 22 44 b0 ?_; simp only [tkA, tkB, tkC]
        refine .tq 23 45 b0 ?_ (hy := fun w hSw => by have s := (HC.out w hSw).2.cellv (v := .string y4) 4 rfl; go_simp; rfl); simp only [tkA, tkB, tkC]
        clear b0 HC
        refine AnyG.ready (rs := [4, 26]) (by kernel_rfl) (by simp) ?_
        refine AllG.cons rfl (fun K hK => ?_) (AllG.cons rfl (fun K hK => ?_) AllG.nil)
        · skip
          go_simp
          refine (HWI.out w0 bw0).1.mono ?_
          rintro e v1 ⟨⟨p0, q0, s0, rfl, L0⟩, bb⟩
          have bv1 : Below w2.heap.size w2 v1 := bw0.trans (bb.mono bw0.size)
          refine hK.out _ _ ⟨bv1, fun _ => trivial⟩ ?_
          clear hK K bb bw0
          refine AnyG.ready (rs := [9, 26]) (by kernel_rfl) (by simp) ?_
          refine AllG.cons rfl (fun K hK => ?_) (AllG.cons rfl (fun K hK => ?_) AllG.nil)
          · skip
            go_simp
            refine (HWI.out v1 bv1).2.1.mono ?_
            rintro e v2 ⟨⟨p1, q1, s1, rfl, L1⟩, bb⟩
            have bv2 : Below w2.heap.size w2 v2 := bv1.trans (bb.mono bv1.size)
            replace L0 := L0.carry bb
            refine hK.out _ _ ⟨bv2, fun _ => trivial⟩ ?_
            clear hK K bb bv1
            refine AnyG.ready (rs := [14, 26]) (by kernel_rfl) (by simp) ?_
            refine AllG.cons rfl (fun K hK => ?_) (AllG.cons rfl (fun K hK => ?_) AllG.nil)
            · skip
              go_simp
              refine (HWI.out v2 bv2).2.2.1.mono ?_
              rintro e v3 ⟨⟨p2, q2, s2, rfl, L2⟩, bb⟩
              have bv3 : Below w2.heap.size w2 v3 := bv2.trans (bb.mono bv2.size)
              replace L0 := L0.carry bb
              replace L1 := L1.carry bb
              refine hK.out _ _ ⟨bv3, fun _ => trivial⟩ ?_
              clear hK K bb bv2
              refine AnyG.ready (rs := [19, 26]) (by kernel_rfl) (by simp) ?_
              refine AllG.cons rfl (fun K hK => ?_) (AllG.cons rfl (fun K hK => ?_) AllG.nil)
              · skip
                go_simp
                refine (HWI.out v3 bv3).2.2.2.1.mono ?_
                rintro e v4 ⟨⟨p3, q3, s3, rfl, L3⟩, bb⟩
                have bv4 : Below w2.heap.size w2 v4 := bv3.trans (bb.mono bv3.size)
                replace L0 := L0.carry bb
                replace L1 := L1.carry bb
                replace L2 := L2.carry bb
                refine hK.out _ _ ⟨bv4, fun _ => trivial⟩ ?_
                clear hK K bb bv3
                refine AnyG.ready (rs := [24, 26]) (by kernel_rfl) (by simp) ?_
                refine AllG.cons rfl (fun K hK => ?_) (AllG.cons rfl (fun K hK => ?_) AllG.nil)
                · skip
                  go_simp
                  refine (HWI.out v4 bv4).2.2.2.2.mono ?_
                  rintro e v5 ⟨⟨p4, q4, s4, rfl, L4⟩, bb⟩
                  have bv5 : Below w2.heap.size w2 v5 := bv4.trans (bb.mono bv4.size)
                  replace L0 := L0.carry bb
                  replace L1 := L1.carry bb
                  replace L2 := L2.carry bb
                  replace L3 := L3.carry bb
                  refine hK.out _ _ ⟨bv5, fun _ => trivial⟩ ?_
                  clear hK K bb bv4
                  refine .tq 25 47 bv5 ?_; simp only [tkA, tkB, tkC]
                  refine AnyG.ready (rs := [26]) (by kernel_rfl) (by simp) ?_
                  refine AllG.cons rfl (fun K hK => ?_) AllG.nil
                  go_simp
                  have AL := alloc_below v5 (.cells #[.slice none 0 0, .slice none 0 0, .slice none 0 0, .slice none 0 0, .slice none 0 0] 39)
                  have bv6 : Below w2.heap.size w2 (v5.alloc (.cells #[.slice none 0 0, .slice none 0 0, .slice none 0 0, .slice none 0 0, .slice none 0 0] 39)) := bv5.trans (AL.mono bv5.size)
                  have NB := Blk.new v5 39 #[.slice none 0 0, .slice none 0 0, .slice none 0 0, .slice none 0 0, .slice none 0 0]
                  have HgA : Hd (w2.heap.size ≤ v5.heap.size) := ⟨bv5.size⟩
                  replace L0 := L0.carry AL
                  replace L1 := L1.carry AL
                  replace L2 := L2.carry AL
                  replace L3 := L3.carry AL
                  replace L4 := L4.carry AL
                  refine hK.out _ _ ⟨bv6, fun _ => trivial⟩ ?_
                  clear hK K AL bv5
                  generalize v5.alloc (.cells #[.slice none 0 0, .slice none 0 0, .slice none 0 0, .slice none 0 0, .slice none 0 0] 39) = v6 at *
                  generalize v5.heap.size = gA at *
                  have z0 := NB.cellv (v := .slice none 0 0) 0 rfl
                  have z1 := NB.cellv (v := .slice none 0 0) 1 rfl
                  have z2 := NB.cellv (v := .slice none 0 0) 2 rfl
                  have z3 := NB.cellv (v := .slice none 0 0) 3 rfl
                  have z4 := NB.cellv (v := .slice none 0 0) 4 rfl
                  have t0 := NB.frozen 0
                  have t1 := NB.frozen 1
                  have t2 := NB.frozen 2
                  have t3 := NB.frozen 3
                  have t4 := NB.frozen 4
                  obtain ⟨BS, NS, RS⟩ := wid_fin (r := ⟨widL r.users y0, widL r.groups y1, widL r.verbs y2, widL r.resources y3, widL r.spaces y4⟩) (v0 := .slice p0 q0 s0) (v1 := .slice p1 q1 s1) (v2 := .slice p2 q2 s2) (v3 := .slice p3 q3 s3) (v4 := .slice p4 q4 s4) HgA.out bv6 NB ⟨L0, L1, L2, L3, L4⟩
                  refine AnyG.ready (rs := [27]) (by kernel_rfl) (by simp) ?_
                  refine AllG.cons rfl (fun K hK => ?_) AllG.nil
                  go_simp
                  refine hK.out _ _ ⟨BS, fun _ => trivial⟩ ?_
                  refine AnyG.done (by kernel_rfl) ?_ _
                  go_wp2_with fail
                  go_meet
                  exact ⟨⟨gA, _, _, _, _, _, _, _, _, _, _, _, _, _, _, _, rfl, BS, NS, RS⟩⟩
                · skip
                  go_simp
                  have AL := alloc_below v4 (.cells #[.slice none 0 0, .slice none 0 0, .slice none 0 0, .slice none 0 0, .slice none 0 0] 39)
                  have bv7 : Below w2.heap.size w2 (v4.alloc (.cells #[.slice none 0 0, .slice none 0 0, .slice none 0 0, .slice none 0 0, .slice none 0 0] 39)) := bv4.trans (AL.mono bv4.size)
                  have NB := Blk.new v4 39 #[.slice none 0 0, .slice none 0 0, .slice none 0 0, .slice none 0 0, .slice none 0 0]
                  have HgA : Hd (w2.heap.size ≤ v4.heap.size) := ⟨bv4.size⟩
                  replace L0 := L0.carry AL
                  replace L1 := L1.carry AL
                  replace L2 := L2.carry AL
                  replace L3 := L3.carry AL
                  refine hK.out _ _ ⟨bv7, fun _ => trivial⟩ ?_
                  clear hK K AL bv4
                  generalize v4.alloc (.cells #[.slice none 0 0, .slice none 0 0, .slice none 0 0, .slice none 0 0, .slice none 0 0] 39) = v7 at *
                  generalize v4.heap.size = gA at *
                  refine AnyG.ready (rs := [24]) (by kernel_rfl) (by simp) ?_
                  refine AllG.cons rfl (fun K hK => ?_) AllG.nil
                  go_simp
                  refine (HWI.out v7 bv7).2.2.2.2.mono ?_
                  rintro e v8 ⟨⟨p4, q4, s4, rfl, L4⟩, bb⟩
                  have bv8 : Below w2.heap.size w2 v8 := bv7.trans (bb.mono bv7.size)
                  replace L0 := L0.carry bb
                  replace L1 := L1.carry bb
                  replace L2 := L2.carry bb
                  replace L3 := L3.carry bb
                  replace NB := NB.kept (Kept.of_below bb (fun _ => False)) id
                  refine hK.out _ _ ⟨bv8, fun _ => trivial⟩ ?_
                  clear hK K bb bv7
                  refine .tq 25 47 bv8 ?_; simp only [tkA, tkB, tkC]
                  have z0 := NB.cellv (v := .slice none 0 0) 0 rfl
                  have z1 := NB.cellv (v := .slice none 0 0) 1 rfl
                  have z2 := NB.cellv (v := .slice none 0 0) 2 rfl
                  have z3 := NB.cellv (v := .slice none 0 0) 3 rfl
                  have z4 := NB.cellv (v := .slice none 0 0) 4 rfl
                  have t0 := NB.frozen 0
                  have t1 := NB.frozen 1
                  have t2 := NB.frozen 2
                  have t3 := NB.frozen 3
                  have t4 := NB.frozen 4
                  obtain ⟨BS, NS, RS⟩ := wid_fin (r := ⟨widL r.users y0, widL r.groups y1, widL r.verbs y2, widL r.resources y3, widL r.spaces y4⟩) (v0 := .slice p0 q0 s0) (v1 := .slice p1 q1 s1) (v2 := .slice p2 q2 s2) (v3 := .slice p3 q3 s3) (v4 := .slice p4 q4 s4) HgA.out bv8 NB ⟨L0, L1, L2, L3, L4⟩
                  refine AnyG.ready (rs := [27]) (by kernel_rfl) (by simp) ?_
                  refine AllG.cons rfl (fun K hK => ?_) AllG.nil
                  go_simp
                  refine hK.out _ _ ⟨BS, fun _ => trivial⟩ ?_
                  refine AnyG.done (by kernel_rfl) ?_ _
                  go_wp2_with fail
                  go_meet
                  exact ⟨⟨gA, _, _, _, _, _, _, _, _, _, _, _, _, _, _, _, rfl, BS, NS, RS⟩⟩
              · skip
                go_simp
                have AL := alloc_below v3 (.cells #[.slice none 0 0, .slice none 0 0, .slice none 0 0, .slice none 0 0, .slice none 0 0] 39)
                have bv9 : Below w2.heap.size w2 (v3.alloc (.cells #[.slice none 0 0, .slice none 0 0, .slice none 0 0, .slice none 0 0, .slice none 0 0] 39)) := bv3.trans (AL.mono bv3.size)
                have NB := Blk.new v3 39 #[.slice none 0 0, .slice none 0 0, .slice none 0 0, .slice none 0 0, .slice none 0 0]
                have HgA : Hd (w2.heap.size ≤ v3.heap.size) := ⟨bv3.size⟩
                replace L0 := L0.carry AL
                replace L1 := L1.carry AL
                replace L2 := L2.carry AL
                refine hK.out _ _ ⟨bv9, fun _ => trivial⟩ ?_
                clear hK K AL bv3
                generalize v3.alloc (.cells #[.slice none 0 0, .slice none 0 0, .slice none 0 0, .slice none 0 0, .slice none 0 0] 39) = v9 at *
                generalize v3.heap.size = gA at *
                refine AnyG.ready (rs := [19]) (by kernel_rfl) (by simp) ?_
                refine AllG.cons rfl (fun K hK => ?_) AllG.nil
                go_simp
                refine (HWI.out v9 bv9).2.2.2.1.mono ?_
                rintro e v10 ⟨⟨p3, q3, s3, rfl, L3⟩, bb⟩
                have bv10 : Below w2.heap.size w2 v10 := bv9.trans (bb.mono bv9.size)
                replace L0 := L0.carry bb
                replace L1 := L1.carry bb
                replace L2 := L2.carry bb
                replace NB := NB.kept (Kept.of_below bb (fun _ => False)) id
                refine hK.out _ _ ⟨bv10, fun _ => trivial⟩ ?_
                clear hK K bb bv9
                refine AnyG.ready (rs := [24]) (by kernel_rfl) (by simp) ?_
                refine AllG.cons rfl (fun K hK => ?_) AllG.nil
                go_simp
                refine (HWI.out v10 bv10).2.2.2.2.mono ?_
                rintro e v11 ⟨⟨p4, q4, s4, rfl, L4⟩, bb⟩
                have bv11 : Below w2.heap.size w2 v11 := bv10.trans (bb.mono bv10.size)
                replace L0 := L0.carry bb
                replace L1 := L1.carry bb
                replace L2 := L2.carry bb
                replace L3 := L3.carry bb
                replace NB := NB.kept (Kept.of_below bb (fun _ => False)) id
                refine hK.out _ _ ⟨bv11, fun _ => trivial⟩ ?_
                clear hK K bb bv10
                refine .tq 25 47 bv11 ?_; simp only [tkA, tkB, tkC]
                have z0 := NB.cellv (v := .slice none 0 0) 0 rfl
                have z1 := NB.cellv (v := .slice none 0 0) 1 rfl
                have z2 := NB.cellv (v := .slice none 0 0) 2 rfl
                have z3 := NB.cellv (v := .slice none 0 0) 3 rfl
                have z4 := NB.cellv (v := .slice none 0 0) 4 rfl
                have t0 := NB.frozen 0
                have t1 := NB.frozen 1
                have t2 := NB.frozen 2
                have t3 := NB.frozen 3
                have t4 := NB.frozen 4
                obtain ⟨BS, NS, RS⟩ := wid_fin (r := ⟨widL r.users y0, widL r.groups y1, widL r.verbs y2, widL r.resources y3, widL r.spaces y4⟩) (v0 := .slice p0 q0 s0) (v1 := .slice p1 q1 s1) (v2 := .slice p2 q2 s2) (v3 := .slice p3 q3 s3) (v4 := .slice p4 q4 s4) HgA.out bv11 NB ⟨L0, L1, L2, L3, L4⟩
                refine AnyG.ready (rs := [27]) (by kernel_rfl) (by simp) ?_
                refine AllG.cons rfl (fun K hK => ?_) AllG.nil
                go_simp
                refine hK.out _ _ ⟨BS, fun _ => trivial⟩ ?_
                refine AnyG.done (by kernel_rfl) ?_ _
                go_wp2_with fail
                go_meet
                exact ⟨⟨gA, _, _, _, _, _, _, _, _, _, _, _, _, _, _, _, rfl, BS, NS, RS⟩⟩
            · skip
              go_simp
              have AL := alloc_below v2 (.cells #[.slice none 0 0, .slice none 0 0, .slice none 0 0, .slice none 0 0, .slice none 0 0] 39)
              have bv12 : Below w2.heap.size w2 (v2.alloc (.cells #[.slice none 0 0, .slice none 0 0, .slice none 0 0, .slice none 0 0, .slice none 0 0] 39)) := bv2.trans (AL.mono bv2.size)
              have NB := Blk.new v2 39 #[.slice none 0 0, .slice none 0 0, .slice none 0 0, .slice none 0 0, .slice none 0 0]
              have HgA : Hd (w2.heap.size ≤ v2.heap.size) := ⟨bv2.size⟩
              replace L0 := L0.carry AL
              replace L1 := L1.carry AL
              refine hK.out _ _ ⟨bv12, fun _ => trivial⟩ ?_
              clear hK K AL bv2
              generalize v2.alloc (.cells #[.slice none 0 0, .slice none 0 0, .slice none 0 0, .slice none 0 0, .slice none 0 0] 39) = v12 at *
              generalize v2.heap.size = gA at *
              refine AnyG.ready (rs := [14]) (by kernel_rfl) (by simp) ?_
              refine AllG.cons rfl (fun K hK => ?_) AllG.nil
              go_simp
              refine (HWI.out v12 bv12).2.2.1.mono ?_
              rintro e v13 ⟨⟨p2, q2, s2, rfl, L2⟩, bb⟩
              have bv13 : Below w2.heap.size w2 v13 := bv12.trans (bb.mono bv12.size)
              replace L0 := L0.carry bb
              replace L1 := L1.carry bb
              replace NB := NB.kept (Kept.of_below bb (fun _ => False)) id
              refine hK.out _ _ ⟨bv13, fun _ => trivial⟩ ?_
              clear hK K bb bv12
              refine AnyG.ready (rs := [19]) (by kernel_rfl) (by simp) ?_
              refine AllG.cons rfl (fun K hK => ?_) AllG.nil
              go_simp
              refine (HWI.out v13 bv13).2.2.2.1.mono ?_
              rintro e v14 ⟨⟨p3, q3, s3, rfl, L3⟩, bb⟩
              have bv14 : Below w2.heap.size w2 v14 := bv13.trans (bb.mono bv13.size)
              replace L0 := L0.carry bb
              replace L1 := L1.carry bb
              replace L2 := L2.carry bb
              replace NB := NB.kept (Kept.of_below bb (fun _ => False)) id
              refine hK.out _ _ ⟨bv14, fun _ => trivial⟩ ?_
              clear hK K bb bv13
              refine AnyG.ready (rs := [24]) (by kernel_rfl) (by simp) ?_
              refine AllG.cons rfl (fun K hK => ?_) AllG.nil
              go_simp
              refine (HWI.out v14 bv14).2.2.2.2.mono ?_
              rintro e v15 ⟨⟨p4, q4, s4, rfl, L4⟩, bb⟩
              have bv15 : Below w2.heap.size w2 v15 := bv14.trans (bb.mono bv14.size)
              replace L0 := L0.carry bb
              replace L1 := L1.carry bb
              replace L2 := L2.carry bb
              replace L3 := L3.carry bb
              replace NB := NB.kept (Kept.of_below bb (fun _ => False)) id
              refine hK.out _ _ ⟨bv15, fun _ => trivial⟩ ?_
              clear hK K bb bv14
              refine .tq 25 47 bv15 ?_; simp only [tkA, tkB, tkC]
              have z0 := NB.cellv (v := .slice none 0 0) 0 rfl
              have z1 := NB.cellv (v := .slice none 0 0) 1 rfl
              have z2 := NB.cellv (v := .slice none 0 0) 2 rfl
              have z3 := NB.cellv (v := .slice none 0 0) 3 rfl
              have z4 := NB.cellv (v := .slice none 0 0) 4 rfl
              have t0 := NB.frozen 0
              have t1 := NB.frozen 1
              have t2 := NB.frozen 2
              have t3 := NB.frozen 3
              have t4 := NB.frozen 4
              obtain ⟨BS, NS, RS⟩ := wid_fin (r := ⟨widL r.users y0, widL r.groups y1, widL r.verbs y2, widL r.resources y3, widL r.spaces y4⟩) (v0 := .slice p0 q0 s0) (v1 := .slice p1 q1 s1) (v2 := .slice p2 q2 s2) (v3 := .slice p3 q3 s3) (v4 := .slice p4 q4 s4) HgA.out bv15 NB ⟨L0, L1, L2, L3, L4⟩
              refine AnyG.ready (rs := [27]) (by kernel_rfl) (by simp) ?_
              refine AllG.cons rfl (fun K hK => ?_) AllG.nil
              go_simp
              refine hK.out _ _ ⟨BS, fun _ => trivial⟩ ?_
              refine AnyG.done (by kernel_rfl) ?_ _
              go_wp2_with fail
              go_meet
              exact ⟨⟨gA, _, _, _, _, _, _, _, _, _, _, _, _, _, _, _, rfl, BS, NS, RS⟩⟩
          · skip
            go_simp
            have AL := alloc_below v1 (.cells #[.slice none 0 0, .slice none 0 0, .slice none 0 0, .slice none 0 0, .slice none 0 0] 39)
            have bv16 : Below w2.heap.size w2 (v1.alloc (.cells #[.slice none 0 0, .slice none 0 0, .slice none 0 0, .slice none 0 0, .slice none 0 0] 39)) := bv1.trans (AL.mono bv1.size)
            have NB := Blk.new v1 39 #[.slice none 0 0, .slice none 0 0, .slice none 0 0, .slice none 0 0, .slice none 0 0]
            have HgA : Hd (w2.heap.size ≤ v1.heap.size) := ⟨bv1.size⟩
            replace L0 := L0.carry AL
            refine hK.out _ _ ⟨bv16, fun _ => trivial⟩ ?_
            clear hK K AL bv1
            generalize v1.alloc (.cells #[.slice none 0 0, .slice none 0 0, .slice none 0 0, .slice none 0 0, .slice none 0 0] 39) = v16 at *
            generalize v1.heap.size = gA at *
            refine AnyG.ready (rs := [9]) (by kernel_rfl) (by simp) ?_
            refine AllG.cons rfl (fun K hK => ?_) AllG.nil
            go_simp
            refine (HWI.out v16 bv16).2.1.mono ?_
            rintro e v17 ⟨⟨p1, q1, s1, rfl, L1⟩, bb⟩
            have bv17 : Below w2.heap.size w2 v17 := bv16.trans (bb.mono bv16.size)
            replace L0 := L0.carry bb
            replace NB := NB.kept (Kept.of_below bb (fun _ => False)) id
            refine hK.out _ _ ⟨bv17, fun _ => trivial⟩ ?_
            clear hK K bb bv16
            refine AnyG.ready (rs := [14]) (by kernel_rfl) (by simp) ?_
            refine AllG.cons rfl (fun K hK => ?_) AllG.nil
            go_simp
            refine (HWI.out v17 bv17).2.2.1.mono ?_
            rintro e v18 ⟨⟨p2, q2, s2, rfl, L2⟩, bb⟩
            have bv18 : Below w2.heap.size w2 v18 := bv17.trans (bb.mono bv17.size)
            replace L0 := L0.carry bb
            replace L1 := L1.carry bb
            replace NB := NB.kept (Kept.of_below bb (fun _ => False)) id
            refine hK.out _ _ ⟨bv18, fun _ => trivial⟩ ?_
            clear hK K bb bv17
            refine AnyG.ready (rs := [19]) (by kernel_rfl) (by simp) ?_
            refine AllG.cons rfl (fun K hK => ?_) AllG.nil
            go_simp
            refine (HWI.out v18 bv18).2.2.2.1.mono ?_
            rintro e v19 ⟨⟨p3, q3, s3, rfl, L3⟩, bb⟩
            have bv19 : Below w2.heap.size w2 v19 := bv18.trans (bb.mono bv18.size)
            replace L0 := L0.carry bb
            replace L1 := L1.carry bb
            replace L2 := L2.carry bb
            replace NB := NB.kept (Kept.of_below bb (fun _ => False)) id
            refine hK.out _ _ ⟨bv19, fun _ => trivial⟩ ?_
            clear hK K bb bv18
            refine AnyG.ready (rs := [24]) (by kernel_rfl) (by simp) ?_
            refine AllG.cons rfl (fun K hK => ?_) AllG.nil
            go_simp
            refine (HWI.out v19 bv19).2.2.2.2.mono ?_
            rintro e v20 ⟨⟨p4, q4, s4, rfl, L4⟩, bb⟩
            have bv20 : Below w2.heap.size w2 v20 := bv19.trans (bb.mono bv19.size)
            replace L0 := L0.carry bb
            replace L1 := L1.carry bb
            replace L2 := L2.carry bb
            replace L3 := L3.carry bb
            replace NB := NB.kept (Kept.of_below bb (fun _ => False)) id
            refine hK.out _ _ ⟨bv20, fun _ => trivial⟩ ?_
            clear hK K bb bv19
            refine .tq 25 47 bv20 ?_; simp only [tkA, tkB, tkC]
            have z0 := NB.cellv (v := .slice none 0 0) 0 rfl
            have z1 := NB.cellv (v := .slice none 0 0) 1 rfl
            have z2 := NB.cellv (v := .slice none 0 0) 2 rfl
            have z3 := NB.cellv (v := .slice none 0 0) 3 rfl
            have z4 := NB.cellv (v := .slice none 0 0) 4 rfl
            have t0 := NB.frozen 0
            have t1 := NB.frozen 1
            have t2 := NB.frozen 2
            have t3 := NB.frozen 3
            have t4 := NB.frozen 4
            obtain ⟨BS, NS, RS⟩ := wid_fin (r := ⟨widL r.users y0, widL r.groups y1, widL r.verbs y2, widL r.resources y3, widL r.spaces y4⟩) (v0 := .slice p0 q0 s0) (v1 := .slice p1 q1 s1) (v2 := .slice p2 q2 s2) (v3 := .slice p3 q3 s3) (v4 := .slice p4 q4 s4) HgA.out bv20 NB ⟨L0, L1, L2, L3, L4⟩
            refine AnyG.ready (rs := [27]) (by kernel_rfl) (by simp) ?_
            refine AllG.cons rfl (fun K hK => ?_) AllG.nil
            go_simp
            refine hK.out _ _ ⟨BS, fun _ => trivial⟩ ?_
            refine AnyG.done (by kernel_rfl) ?_ _
            go_wp2_with fail
            go_meet
            exact ⟨⟨gA, _, _, _, _, _, _, _, _, _, _, _, _, _, _, _, rfl, BS, NS, RS⟩⟩
        · skip
          go_simp
          have AL := alloc_below w0 (.cells #[.slice none 0 0, .slice none 0 0, .slice none 0 0, .slice none 0 0, .slice none 0 0] 39)
          have bv21 : Below w2.heap.size w2 (w0.alloc (.cells #[.slice none 0 0, .slice none 0 0, .slice none 0 0, .slice none 0 0, .slice none 0 0] 39)) := bw0.trans (AL.mono bw0.size)
          have NB := Blk.new w0 39 #[.slice none 0 0, .slice none 0 0, .slice none 0 0, .slice none 0 0, .slice none 0 0]
          have HgA : Hd (w2.heap.size ≤ w0.heap.size) := ⟨bw0.size⟩
          refine hK.out _ _ ⟨bv21, fun _ => trivial⟩ ?_
          clear hK K AL bw0
          generalize w0.alloc (.cells #[.slice none 0 0, .slice none 0 0, .slice none 0 0, .slice none 0 0, .slice none 0 0] 39) = v21 at *
          generalize w0.heap.size = gA at *
          refine AnyG.ready (rs := [4]) (by kernel_rfl) (by simp) ?_
          refine AllG.cons rfl (fun K hK => ?_) AllG.nil
          go_simp
          refine (HWI.out v21 bv21).1.mono ?_
          rintro e v22 ⟨⟨p0, q0, s0, rfl, L0⟩, bb⟩
          have bv22 : Below w2.heap.size w2 v22 := bv21.trans (bb.mono bv21.size)
          replace NB := NB.kept (Kept.of_below bb (fun _ => False)) id
          refine hK.out _ _ ⟨bv22, fun _ => trivial⟩ ?_
          clear hK K bb bv21
          refine AnyG.ready (rs := [9]) (by kernel_rfl) (by simp) ?_
          refine AllG.cons rfl (fun K hK => ?_) AllG.nil
          go_simp
          refine (HWI.out v22 bv22).2.1.mono ?_
          rintro e v23 ⟨⟨p1, q1, s1, rfl, L1⟩, bb⟩
          have bv23 : Below w2.heap.size w2 v23 := bv22.trans (bb.mono bv22.size)
          replace L0 := L0.carry bb
          replace NB := NB.kept (Kept.of_below bb (fun _ => False)) id
          refine hK.out _ _ ⟨bv23, fun _ => trivial⟩ ?_
          clear hK K bb bv22
          refine AnyG.ready (rs := [14]) (by kernel_rfl) (by simp) ?_
          refine AllG.cons rfl (fun K hK => ?_) AllG.nil
          go_simp
          refine (HWI.out v23 bv23).2.2.1.mono ?_
          rintro e v24 ⟨⟨p2, q2, s2, rfl, L2⟩, bb⟩
          have bv24 : Below w2.heap.size w2 v24 := bv23.trans (bb.mono bv23.size)
          replace L0 := L0.carry bb
          replace L1 := L1.carry bb
          replace NB := NB.kept (Kept.of_below bb (fun _ => False)) id
          refine hK.out _ _ ⟨bv24, fun _ => trivial⟩ ?_
          clear hK K bb bv23
          refine AnyG.ready (rs := [19]) (by kernel_rfl) (by simp) ?_
          refine AllG.cons rfl (fun K hK => ?_) AllG.nil
          go_simp
          refine (HWI.out v24 bv24).2.2.2.1.mono ?_
          rintro e v25 ⟨⟨p3, q3, s3, rfl, L3⟩, bb⟩
          have bv25 : Below w2.heap.size w2 v25 := bv24.trans (bb.mono bv24.size)
          replace L0 := L0.carry bb
          replace L1 := L1.carry bb
          replace L2 := L2.carry bb
          replace NB := NB.kept (Kept.of_below bb (fun _ => False)) id
          refine hK.out _ _ ⟨bv25, fun _ => trivial⟩ ?_
          clear hK K bb bv24
          refine AnyG.ready (rs := [24]) (by kernel_rfl) (by simp) ?_
          refine AllG.cons rfl (fun K hK => ?_) AllG.nil
          go_simp
          refine (HWI.out v25 bv25).2.2.2.2.mono ?_
          rintro e v26 ⟨⟨p4, q4, s4, rfl, L4⟩, bb⟩
          have bv26 : Below w2.heap.size w2 v26 := bv25.trans (bb.mono bv25.size)
          replace L0 := L0.carry bb
          replace L1 := L1.carry bb
          replace L2 := L2.carry bb
          replace L3 := L3.carry bb
          replace NB := NB.kept (Kept.of_below bb (fun _ => False)) id
          refine hK.out _ _ ⟨bv26, fun _ => trivial⟩ ?_
          clear hK K bb bv25
          refine .tq 25 47 bv26 ?_; simp only [tkA, tkB, tkC]
          have z0 := NB.cellv (v := .slice none 0 0) 0 rfl
          have z1 := NB.cellv (v := .slice none 0 0) 1 rfl
          have z2 := NB.cellv (v := .slice none 0 0) 2 rfl
          have z3 := NB.cellv (v := .slice none 0 0) 3 rfl
          have z4 := NB.cellv (v := .slice none 0 0) 4 rfl
          have t0 := NB.frozen 0
          have t1 := NB.frozen 1
          have t2 := NB.frozen 2
          have t3 := NB.frozen 3
          have t4 := NB.frozen 4
          obtain ⟨BS, NS, RS⟩ := wid_fin (r := ⟨widL r.users y0, widL r.groups y1, widL r.verbs y2, widL r.resources y3, widL r.spaces y4⟩) (v0 := .slice p0 q0 s0) (v1 := .slice p1 q1 s1) (v2 := .slice p2 q2 s2) (v3 := .slice p3 q3 s3) (v4 := .slice p4 q4 s4) HgA.out bv26 NB ⟨L0, L1, L2, L3, L4⟩
          refine AnyG.ready (rs := [27]) (by kernel_rfl) (by simp) ?_
          refine AllG.cons rfl (fun K hK => ?_) AllG.nil
          go_simp
          refine hK.out _ _ ⟨BS, fun _ => trivial⟩ ?_
          refine AnyG.done (by kernel_rfl) ?_ _
          go_wp2_with fail
          go_meet
          exact ⟨⟨gA, _, _, _, _, _, _, _, _, _, _, _, _, _, _, _, rfl, BS, NS, RS⟩⟩
      case rest =>
        obtain ⟨g, p0, q0, s0, p1, q1, s1, p2, q2, s2, p3, q3, s3, p4, q4, s4, rfl, bc, NC, RC⟩ := hcut.ex
        clear hcut HWI HC b5'
        have HR : Hd (∀ W, Below wc.heap.size wc W → (Blk W A2 27 #[.string x0, .slice ag ng cg, .string x2, .string x3, .string x4, .int .i64 x5] ∧ Blk W g 39 #[.slice p0 q0 s0, .slice p1 q1 s1, .slice p2 q2 s2, .slice p3 q3 s3, .slice p4 q4 s4]) ∧ Below w.heap.size w W
            ∧ (Calls Try.prog 14 #[.agg #[.slice p0 q0 s0, .slice p1 q1 s1, .slice p2 q2 s2, .slice p3 q3 s3, .slice p4 q4 s4], .agg #[.string x0, .slice ag ng cg, .string x2, .string x3, .string x4, .int .i64 x5]] W fun e w' => e = .returned (.bool (ruleB ⟨widL r.users y0, widL r.groups y1, widL r.verbs y2, widL r.resources y3, widL r.spaces y4⟩ ⟨x0, L, x2, x3, x4, x5⟩)) ∧ Below W.heap.size W w')) := ⟨fun W b => by
          have bw : Below w2.heap.size w2 W := bc.trans (b.mono bc.size)
          obtain ⟨M1, M2, -, M3, M4, -⟩ := HW'.out W bw
          exact ⟨⟨M2, NC.kept (Kept.of_below b (fun _ => False)) id⟩, M3, rule_ok ⟨widL r.users y0, widL r.groups y1, widL r.verbs y2, widL r.resources y3, widL r.spaces y4⟩ ⟨x0, L, x2, x3, x4, x5⟩ W (RC.carry b) (HG.out W bw)⟩⟩
        obtain ⟨N1, N2, -, B6, R6, -⟩ := HW'.out wc bc
        have I1 := rule_ok r ⟨x0, L, x2, x3, x4, x5⟩ wc R6 (HG.out wc bc)
        have HM : Hd (ruleB r ⟨x0, L, x2, x3, x4, x5⟩ = true → ruleB ⟨widL r.users y0, widL r.groups y1, widL r.verbs y2, widL r.resources y3, widL r.spaces y4⟩ ⟨x0, L, x2, x3, x4, x5⟩ = true) := ⟨ruleB_wid r ⟨x0, L, x2, x3, x4, x5⟩ y0 y1 y2 y3 y4⟩
        have e0 := N1.cellv (v := .slice a0 n0 c0) 0 rfl
        have e1 := N1.cellv (v := .slice a1 n1 c1) 1 rfl
        have e2 := N1.cellv (v := .slice a2 n2 c2) 2 rfl
        have e3 := N1.cellv (v := .slice a3 n3 c3) 3 rfl
        have e4 := N1.cellv (v := .slice a4 n4 c4) 4 rfl
        have d0 := N2.cellv (v := .string x0) 0 rfl
        have d1 := N2.cellv (v := .slice ag ng cg) 1 rfl
        have d2 := N2.cellv (v := .string x2) 2 rfl
        have d3 := N2.cellv (v := .string x3) 3 rfl
        have d4 := N2.cellv (v := .string x4) 4 rfl
        have d5 := N2.cellv (v := .int .i64 x5) 5 rfl
        clear N1 N2 B6 R6 NC RC bc HW' HG
        generalize ruleB ⟨widL r.users y0, widL r.groups y1, widL r.verbs y2, widL r.resources y3, widL r.spaces y4⟩ ⟨x0, L, x2, x3, x4, x5⟩ = rb2 at *
        generalize ruleB r ⟨x0, L, x2, x3, x4, x5⟩ = rb at *
        go_wp2_with fail
        refine I1.mono ?_
        rintro e w7 ⟨rfl, b7⟩
        obtain ⟨⟨N2, N4⟩, B7, I2⟩ := HR.out w7 b7
        have HB7 : Hd (Below wc.heap.size wc w7) := ⟨b7⟩
        clear I1 e0 e1 e2 e3 e4 d0 d1 d2 d3 d4 d5 b7
        cases rb with
        | false =>
          clear N2 N4 I2 HM
          go_wp2_with fail
          go_ret
          exact ⟨rfl, B7⟩
        | true =>
          have hrb : rb2 = true := HM.out rfl
          subst hrb
          have e0 := N4.cellv (v := .slice p0 q0 s0) 0 rfl
          have e1 := N4.cellv (v := .slice p1 q1 s1) 1 rfl
          have e2 := N4.cellv (v := .slice p2 q2 s2) 2 rfl
          have e3 := N4.cellv (v := .slice p3 q3 s3) 3 rfl
          have e4 := N4.cellv (v := .slice p4 q4 s4) 4 rfl
          have d0 := N2.cellv (v := .string x0) 0 rfl
          have d1 := N2.cellv (v := .slice ag ng cg) 1 rfl
          have d2 := N2.cellv (v := .string x2) 2 rfl
          have d3 := N2.cellv (v := .string x3) 3 rfl
          have d4 := N2.cellv (v := .string x4) 4 rfl
          have d5 := N2.cellv (v := .int .i64 x5) 5 rfl
          clear N2 N4 B7 HM
          go_wp2_with fail
          refine I2.mono ?_
          rintro e w8 ⟨rfl, b8⟩
          have HB8 : Hd (Below w.heap.size w w8) := ⟨(HR.out w8 (HB7.out.trans (b8.mono HB7.out.size))).2.1⟩
          clear I2 e0 e1 e2 e3 e4 d0 d1 d2 d3 d4 d5 b8 HR
          go_wp2_with fail
          go_ret
          exact ⟨rfl, HB8.out⟩
end Go.Proofs.Ytendblngcbknpaa
