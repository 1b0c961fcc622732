/-
  'MatchAll' answers true. Condition: schema and request lie in memory.
-/
import Derived.Test.YtendblngcbknpaaOp
import Derived.Test.YtendblngcbknpaaOrQ
import Derived.Test.YtendblngcbknpaaRr
import Derived.Test.YtendblngcbknpaaCq
import Derived.Test.YtendblngcbknpaaCpy
import Derived.Test.YtendblngcbknpaaSmS
import Derived.Deep.CutBlock
import Derived.Deep.DeepCutAuto
namespace Go.Proofs.Ytendblngcbknpaa
open Go.RowKit

theorem cfw_shape {B : Nat} {w : World} {v : Value} {s : Sc} (h : CfW B w v ⟨0, 0, 0, 0, [], [s]⟩) : ∃ bL nL dL bS nS dS V, v = .agg #[.int .i64 0, .int .i64 0, .int .i64 0, .int .i64 0, .slice bL nL dL, .slice bS nS dS] ∧ LvW B w (.slice bL nL dL) [] ∧ ScW B w (.slice bS nS dS) [s] V := by
  obtain ⟨vL, vS, V, e, hL, hS⟩ := h.ex
  obtain ⟨a, c, rfl, -⟩ := owns_read hL
  obtain ⟨a', c', e', -⟩ := owns_read hS.own
  subst e'
  exact ⟨_, _, _, _, _, _, V, e, hL, hS⟩
/-- The first schema of the copy. -/
theorem cf_first {W : World} {bL bS : Option Addr} {nL dL nS dS : Nat} {s : Sc} (h : CfR W (.agg #[.int .i64 0, .int .i64 0, .int .i64 0, .int .i64 0, .slice bL nL dL, .slice bS nS dS]) ⟨0, 0, 0, 0, [], [s]⟩) : nS = 1 ∧ ∃ b off a n c, bS = some ⟨b, off, none⟩ ∧ b < W.heap.size ∧ (W.cell? ⟨b, off, none⟩ = some (.string s.name) ∧ W.cell? ⟨b, off + 1, none⟩ = some (.string s.level) ∧ W.cell? ⟨b, off + 2, none⟩ = some (.int .i64 s.rank) ∧ W.cell? ⟨b, off + 3, none⟩ = some (.int .i64 s.way) ∧ W.cell? ⟨b, off + 4, none⟩ = some (.slice a n c)) ∧ RlR W (.slice a n c) s.rules := by
  obtain ⟨aL, cL, aS, cS, V, e, -, -, -, hV, hS, hR⟩ := h.ex
  simp only [Value.agg.injEq] at e
  have e2 := (Array.mk.injEq _ _).mp e
  simp at e2
  obtain ⟨-, rfl, rfl, rfl⟩ := e2
  have h0 : 0 < V.length := by rw [hV]; simp
  obtain ⟨b, off, rfl, hb, hc⟩ := hS (by simp)
  have hr := hR 0 (by simp) h0
  have cs := hc 0 (by simp) h0
  have hr0 := hr
  obtain ⟨a, c, ev, -⟩ := hr0
  rw [ev] at hr cs
  exact ⟨rfl, b, off, a, _, c, rfl, hb, ⟨by simpa [scC] using cs 0 (by decide), by simpa [scC] using cs 1 (by decide), by simpa [scC] using cs 2 (by decide), by simpa [scC] using cs 3 (by decide), by simpa [scC] using cs 4 (by decide)⟩, hr⟩
/-- Both boxes are written. -/
theorem all_fin {u W : World} {g6 g7 bnL bnS : Nat} {bL bS aq : Option Addr} {dL dS nq cq : Nat} {s : Sc} {V : List Value} {x0 x2 x3 x4 : ByteArray} {x5 : Int} {G : List ByteArray} (h6 : u.heap.size ≤ g6) (h7 : u.heap.size ≤ g7) (b : Below u.heap.size u W) (N6 : Blk W g6 32 #[.int .i64 0, .int .i64 0, .int .i64 0, .int .i64 0, .slice none 0 0, .slice none 0 0]) (N7 : Blk W g7 27 #[.string ⟨#[]⟩, .slice none 0 0, .string ⟨#[]⟩, .string ⟨#[]⟩, .string ⟨#[]⟩, .int .i64 0])
    (hL : LvW u.heap.size W (.slice bL bnL dL) []) (hS : ScW u.heap.size W (.slice bS bnS dS) [s] V) (hq : OwnT u.heap.size W (.slice aq nq cq) G) :
    (Below u.heap.size u ((((((W.setCell ⟨g6, 0, none⟩ (.int .i64 0)).setCell ⟨g6, 1, none⟩ (.int .i64 0)).setCell ⟨g6, 2, none⟩ (.int .i64 0)).setCell ⟨g6, 3, none⟩ (.int .i64 0)).setCell ⟨g6, 4, none⟩ (.slice bL bnL dL)).setCell ⟨g6, 5, none⟩ (.slice bS bnS dS)) ∧ Blk ((((((W.setCell ⟨g6, 0, none⟩ (.int .i64 0)).setCell ⟨g6, 1, none⟩ (.int .i64 0)).setCell ⟨g6, 2, none⟩ (.int .i64 0)).setCell ⟨g6, 3, none⟩ (.int .i64 0)).setCell ⟨g6, 4, none⟩ (.slice bL bnL dL)).setCell ⟨g6, 5, none⟩ (.slice bS bnS dS)) g7 27 #[.string ⟨#[]⟩, .slice none 0 0, .string ⟨#[]⟩, .string ⟨#[]⟩, .string ⟨#[]⟩, .int .i64 0]) ∧ Below u.heap.size u ((((((((((((W.setCell ⟨g6, 0, none⟩ (.int .i64 0)).setCell ⟨g6, 1, none⟩ (.int .i64 0)).setCell ⟨g6, 2, none⟩ (.int .i64 0)).setCell ⟨g6, 3, none⟩ (.int .i64 0)).setCell ⟨g6, 4, none⟩ (.slice bL bnL dL)).setCell ⟨g6, 5, none⟩ (.slice bS bnS dS)).setCell ⟨g7, 0, none⟩ (.string x0)).setCell ⟨g7, 1, none⟩ (.slice aq nq cq)).setCell ⟨g7, 2, none⟩ (.string x2)).setCell ⟨g7, 3, none⟩ (.string x3)).setCell ⟨g7, 4, none⟩ (.string x4)).setCell ⟨g7, 5, none⟩ (.int .i64 x5)) ∧ Blk ((((((((((((W.setCell ⟨g6, 0, none⟩ (.int .i64 0)).setCell ⟨g6, 1, none⟩ (.int .i64 0)).setCell ⟨g6, 2, none⟩ (.int .i64 0)).setCell ⟨g6, 3, none⟩ (.int .i64 0)).setCell ⟨g6, 4, none⟩ (.slice bL bnL dL)).setCell ⟨g6, 5, none⟩ (.slice bS bnS dS)).setCell ⟨g7, 0, none⟩ (.string x0)).setCell ⟨g7, 1, none⟩ (.slice aq nq cq)).setCell ⟨g7, 2, none⟩ (.string x2)).setCell ⟨g7, 3, none⟩ (.string x3)).setCell ⟨g7, 4, none⟩ (.string x4)).setCell ⟨g7, 5, none⟩ (.int .i64 x5)) g6 32 #[.int .i64 0, .int .i64 0, .int .i64 0, .int .i64 0, .slice bL bnL dL, .slice bS bnS dS] ∧ Blk ((((((((((((W.setCell ⟨g6, 0, none⟩ (.int .i64 0)).setCell ⟨g6, 1, none⟩ (.int .i64 0)).setCell ⟨g6, 2, none⟩ (.int .i64 0)).setCell ⟨g6, 3, none⟩ (.int .i64 0)).setCell ⟨g6, 4, none⟩ (.slice bL bnL dL)).setCell ⟨g6, 5, none⟩ (.slice bS bnS dS)).setCell ⟨g7, 0, none⟩ (.string x0)).setCell ⟨g7, 1, none⟩ (.slice aq nq cq)).setCell ⟨g7, 2, none⟩ (.string x2)).setCell ⟨g7, 3, none⟩ (.string x3)).setCell ⟨g7, 4, none⟩ (.string x4)).setCell ⟨g7, 5, none⟩ (.int .i64 x5)) g7 27 #[.string x0, .slice aq nq cq, .string x2, .string x3, .string x4, .int .i64 x5] ∧ (LvW u.heap.size ((((((((((((W.setCell ⟨g6, 0, none⟩ (.int .i64 0)).setCell ⟨g6, 1, none⟩ (.int .i64 0)).setCell ⟨g6, 2, none⟩ (.int .i64 0)).setCell ⟨g6, 3, none⟩ (.int .i64 0)).setCell ⟨g6, 4, none⟩ (.slice bL bnL dL)).setCell ⟨g6, 5, none⟩ (.slice bS bnS dS)).setCell ⟨g7, 0, none⟩ (.string x0)).setCell ⟨g7, 1, none⟩ (.slice aq nq cq)).setCell ⟨g7, 2, none⟩ (.string x2)).setCell ⟨g7, 3, none⟩ (.string x3)).setCell ⟨g7, 4, none⟩ (.string x4)).setCell ⟨g7, 5, none⟩ (.int .i64 x5)) (.slice bL bnL dL) [] ∧ ScW u.heap.size ((((((((((((W.setCell ⟨g6, 0, none⟩ (.int .i64 0)).setCell ⟨g6, 1, none⟩ (.int .i64 0)).setCell ⟨g6, 2, none⟩ (.int .i64 0)).setCell ⟨g6, 3, none⟩ (.int .i64 0)).setCell ⟨g6, 4, none⟩ (.slice bL bnL dL)).setCell ⟨g6, 5, none⟩ (.slice bS bnS dS)).setCell ⟨g7, 0, none⟩ (.string x0)).setCell ⟨g7, 1, none⟩ (.slice aq nq cq)).setCell ⟨g7, 2, none⟩ (.string x2)).setCell ⟨g7, 3, none⟩ (.string x3)).setCell ⟨g7, 4, none⟩ (.string x4)).setCell ⟨g7, 5, none⟩ (.int .i64 x5)) (.slice bS bnS dS) [s] V) ∧ OwnT u.heap.size ((((((((((((W.setCell ⟨g6, 0, none⟩ (.int .i64 0)).setCell ⟨g6, 1, none⟩ (.int .i64 0)).setCell ⟨g6, 2, none⟩ (.int .i64 0)).setCell ⟨g6, 3, none⟩ (.int .i64 0)).setCell ⟨g6, 4, none⟩ (.slice bL bnL dL)).setCell ⟨g6, 5, none⟩ (.slice bS bnS dS)).setCell ⟨g7, 0, none⟩ (.string x0)).setCell ⟨g7, 1, none⟩ (.slice aq nq cq)).setCell ⟨g7, 2, none⟩ (.string x2)).setCell ⟨g7, 3, none⟩ (.string x3)).setCell ⟨g7, 4, none⟩ (.string x4)).setCell ⟨g7, 5, none⟩ (.int .i64 x5)) (.slice aq nq cq) G := by
  obtain ⟨M6, K6⟩ := six_set N6 (.int .i64 0) (.int .i64 0) (.int .i64 0) (.int .i64 0) (.slice bL bnL dL) (.slice bS bnS dS)
  have ne : g7 ≠ g6 := fun e => by subst e; exact N6.ne N7 (by decide) rfl
  have P7 := N7.kept K6 (fun e => ne e)
  have L6 := LvW.off hL K6 (off_blk N6 (by decide))
  have S6 := ScW.off hS K6 (off_blk N6 (by decide)) (off_blk N6 (by decide)) (off_blk N6 (by decide))
  have Q6 := hq.off K6 (off_blk N6 (by decide))
  have b6 := b.trans (K6.below b.size (fun k hk => by omega))
  generalize World.setCell _ _ _ = W1 at *
  obtain ⟨M7, K7⟩ := six_setQ P7 (.string x0) (.slice aq nq cq) (.string x2) (.string x3) (.string x4) (.int .i64 x5)
  exact ⟨⟨b6, P7⟩, b6.trans (K7.below b6.size (fun k hk => by omega)), M6.kept K7 (fun e => ne e.symm), M7, ⟨LvW.off L6 K7 (off_blk P7 (by decide)), ScW.off S6 K7 (off_blk P7 (by decide)) (off_blk P7 (by decide)) (off_blk P7 (by decide))⟩, Q6.off K7 (off_blk P7 (by decide))⟩
/-- What the region that copies both leaves. -/
structure Ma (u : World) (C : Cf) (x0 : ByteArray) (L : List ByteArray) (x2 x3 x4 : ByteArray) (x5 : Int) (s6 s7 : Value) (W : World) : Prop where
  ex : ∃ g6 g7 bL nL dL bS nS dS aq nq cq, s6 = .pointer (some ⟨g6, 0, none⟩) ∧ s7 = .pointer (some ⟨g7, 0, none⟩) ∧ Below u.heap.size u W ∧ Blk W g6 32 #[.int .i64 0, .int .i64 0, .int .i64 0, .int .i64 0, .slice bL nL dL, .slice bS nS dS] ∧ Blk W g7 27 #[.string x0, .slice aq nq cq, .string x2, .string x3, .string x4, .int .i64 x5] ∧ CfR W (.agg #[.int .i64 0, .int .i64 0, .int .i64 0, .int .i64 0, .slice bL nL dL, .slice bS nS dS]) C ∧ RqR W (.agg #[.string x0, .slice aq nq cq, .string x2, .string x3, .string x4, .int .i64 x5]) ⟨x0, L, x2, x3, x4, x5⟩

set_option maxRecDepth 20000 in
set_option maxHeartbeats 16000000 in
theorem all_law {ag ar : Option Addr} {ng cg nr cr : Nat} {y0 y1 : ByteArray} {y2 y3 : Int} {x0 x2 x3 x4 : ByteArray} {x5 : Int} (rs : List Rl) (L : List ByteArray) (w : World) (hs : RlR w (.slice ar nr cr) rs) (hq : RqR w (.agg #[.string x0, .slice ag ng cg, .string x2, .string x3, .string x4, .int .i64 x5]) ⟨x0, L, x2, x3, x4, x5⟩) (hz0 : y0.size ≤ 9223372036854775807) (hz1 : y1.size ≤ 9223372036854775807) :
    Calls Try.prog 3 #[.agg #[.string y0, .string y1, .int .i64 y2, .int .i64 y3, .slice ar nr cr], .agg #[.string x0, .slice ag ng cg, .string x2, .string x3, .string x4, .int .i64 x5]] w fun e w' => e = .returned (.bool true) ∧ Below w.heap.size w w' := by
  obtain ⟨w2, hw2⟩ : ∃ w2, w2 = (w.alloc (.cells #[.string y0, .string y1, .int .i64 y2, .int .i64 y3, .slice ar nr cr] 24)).alloc (.cells #[.string x0, .slice ag ng cg, .string x2, .string x3, .string x4, .int .i64 x5] 27) := ⟨_, rfl⟩
  have BX := boxes w 24 27 #[.string y0, .string y1, .int .i64 y2, .int .i64 y3, .slice ar nr cr] #[.string x0, .slice ag ng cg, .string x2, .string x3, .string x4, .int .i64 x5]
  rw [← hw2] at BX
  obtain ⟨B, N1, N2⟩ := BX
  have HW : Hd (∀ W, Below w2.heap.size w2 W → Blk W w.heap.size 24 #[.string y0, .string y1, .int .i64 y2, .int .i64 y3, .slice ar nr cr] ∧ Blk W (w.heap.size + 1) 27 #[.string x0, .slice ag ng cg, .string x2, .string x3, .string x4, .int .i64 x5] ∧ Below w.heap.size w W ∧ RlR W (.slice ar nr cr) rs ∧ RqR W (.agg #[.string x0, .slice ag ng cg, .string x2, .string x3, .string x4, .int .i64 x5]) ⟨x0, L, x2, x3, x4, x5⟩) :=
    ⟨fun W b => ⟨N1.kept (Kept.of_below b (fun _ => False)) id, N2.kept (Kept.of_below b (fun _ => False)) id, B.trans (b.mono B.size), (hs.carry B).carry b, (hq.carry B).carry b⟩⟩
  have HG : Hd (∀ W, Below w2.heap.size w2 W → LsR W (.slice ag ng cg) L) := ⟨fun W b => by
    obtain ⟨a', n', c', e', hl⟩ := ((hq.carry B).carry b).ex
    simp only [Value.agg.injEq] at e'
    have := (Array.mk.injEq _ _).mp e'
    simp at this
    obtain ⟨rfl, rfl, rfl⟩ := this
    exact hl⟩
  have hnr : nr = rs.length ∧ rs.length ≤ 9223372036854775807 := by obtain ⟨a, c, e, h9, -⟩ := hs.at; exact ⟨by injection e, h9⟩
  have HN : Hd (nr = rs.length) := ⟨hnr.1⟩
  have hl9 : nr ≤ 9223372036854775807 := by omega
  have HZ : Hd (y0.size ≤ 9223372036854775807 ∧ y1.size ≤ 9223372036854775807) := ⟨hz0, hz1⟩
  have AW := awake_ok w2
  clear N1 N2 B hs hq hnr hz0 hz1
  go_enter Try.func3, Try.ntmps3
  go_upto_region 1 with fail
  rw [← hw2]
  clear hw2
  generalize w.heap.size + 1 = A2 at *
  obtain ⟨A1, hA1⟩ : ∃ A1, A1 = w.heap.size := ⟨_, rfl⟩
  have HW' : Hd (∀ W, Below w2.heap.size w2 W → Blk W A1 24 #[.string y0, .string y1, .int .i64 y2, .int .i64 y3, .slice ar nr cr] ∧ Blk W A2 27 #[.string x0, .slice ag ng cg, .string x2, .string x3, .string x4, .int .i64 x5] ∧ Below w.heap.size w W ∧ RlR W (.slice ar nr cr) rs ∧ RqR W (.agg #[.string x0, .slice ag ng cg, .string x2, .string x3, .string x4, .int .i64 x5]) ⟨x0, L, x2, x3, x4, x5⟩) := ⟨by rw [hA1]; exact HW.out⟩
  rw [← hA1]
  clear hA1 HW
  go_upto_region 3 with (go_at_call 7; refine AW.mono ?_; rintro e w3 ⟨rfl, b3⟩; clear AW)
  obtain ⟨N1, N2, B3, R3, Q3⟩ := HW'.out w3 b3
  have e0 := N1.cellv (v := .string y0) 0 rfl
  have e1 := N1.cellv (v := .string y1) 1 rfl
  have e2 := N1.cellv (v := .int .i64 y2) 2 rfl
  have e3 := N1.cellv (v := .int .i64 y3) 3 rfl
  have e4 := N1.cellv (v := .slice ar nr cr) 4 rfl
  obtain ⟨bu, M1, M2⟩ := boxes w3 24 32 #[.string y0, .string y1, .int .i64 y2, .int .i64 y3, .slice ar nr cr] #[.int .i64 0, .int .i64 0, .int .i64 0, .int .i64 0, .slice none 0 0, .slice (some ⟨w3.heap.size, 0, none⟩) 1 1]
  have b2u : Below w2.heap.size w2 ((w3.alloc (.cells #[.string y0, .string y1, .int .i64 y2, .int .i64 y3, .slice ar nr cr] 24)).alloc (.cells #[.int .i64 0, .int .i64 0, .int .i64 0, .int .i64 0, .slice none 0 0, .slice (some ⟨w3.heap.size, 0, none⟩) 1 1] 32)) := b3.trans (bu.mono b3.size)
  have CU := cf_one M1 (R3.carry bu) HZ.out.1 HZ.out.2
  have HM : Hd (∀ W, Below ((w3.alloc (.cells #[.string y0, .string y1, .int .i64 y2, .int .i64 y3, .slice ar nr cr] 24)).alloc (.cells #[.int .i64 0, .int .i64 0, .int .i64 0, .int .i64 0, .slice none 0 0, .slice (some ⟨w3.heap.size, 0, none⟩) 1 1] 32)).heap.size ((w3.alloc (.cells #[.string y0, .string y1, .int .i64 y2, .int .i64 y3, .slice ar nr cr] 24)).alloc (.cells #[.int .i64 0, .int .i64 0, .int .i64 0, .int .i64 0, .slice none 0 0, .slice (some ⟨w3.heap.size, 0, none⟩) 1 1] 32)) W → Blk W A1 24 #[.string y0, .string y1, .int .i64 y2, .int .i64 y3, .slice ar nr cr] ∧ Blk W A2 27 #[.string x0, .slice ag ng cg, .string x2, .string x3, .string x4, .int .i64 x5] ∧ Blk W (w3.heap.size + 1) 32 #[.int .i64 0, .int .i64 0, .int .i64 0, .int .i64 0, .slice none 0 0, .slice (some ⟨w3.heap.size, 0, none⟩) 1 1] ∧ Below w.heap.size w W ∧ RlR W (.slice ar nr cr) rs ∧ RqR W (.agg #[.string x0, .slice ag ng cg, .string x2, .string x3, .string x4, .int .i64 x5]) ⟨x0, L, x2, x3, x4, x5⟩ ∧ CfR W (.agg #[.int .i64 0, .int .i64 0, .int .i64 0, .int .i64 0, .slice none 0 0, .slice (some ⟨w3.heap.size, 0, none⟩) 1 1]) ⟨0, 0, 0, 0, [], [⟨y0, y1, y2, y3, rs⟩]⟩ ∧ LsR W (.slice ag ng cg) L) := ⟨fun W b => by
    have bw : Below w2.heap.size w2 W := b2u.trans (b.mono b2u.size)
    obtain ⟨P1, P2, P3, P4, P5⟩ := HW'.out W bw
    exact ⟨P1, P2, M2.kept (Kept.of_below b (fun _ => False)) id, P3, P4, P5, CU.carry b, HG.out W bw⟩⟩
  clear N1 N2 B3 R3 Q3 bu M1 M2 b3 CU b2u HW' HG HZ
  go_upto_region 4 with fail
  clear e0 e1 e2 e3 e4
  generalize w3.heap.size + 1 = gC at *
  generalize w3.heap.size = gR at *
  generalize World.alloc _ _ = u at *
  obtain ⟨-, -, NC, -, -, -, CU, -⟩ := HM.out u (Below.refl _ _)
  have SM := small_any _ _ _ CU
  have e0 := NC.cellv (v := .int .i64 0) 0 rfl
  have e1 := NC.cellv (v := .int .i64 0) 1 rfl
  have e2 := NC.cellv (v := .int .i64 0) 2 rfl
  have e3 := NC.cellv (v := .int .i64 0) 3 rfl
  have e4 := NC.cellv (v := .slice none 0 0) 4 rfl
  have e5 := NC.cellv (v := .slice (some ⟨gR, 0, none⟩) 1 1) 5 rfl
  clear NC CU
  go_wp2_with fail
  refine SM.mono ?_
  rintro e w4 ⟨⟨b, rfl, hbn⟩, b4⟩
  have HBN : Hd _ := ⟨hbn⟩
  clear SM e0 e1 e2 e3 e4 e5 hbn
  obtain ⟨-, N2, -, B4, -, Q4, -, -⟩ := HM.out w4 b4
  cases b with
  | false =>
    clear N2 Q4 b4
    go_wp2_with fail
    go_ret
    exact ⟨rfl, B4⟩
  | true =>
    have HRN : Hd (Bnd 80 ⟨0, 0, 0, 0, [], [⟨y0, y1, y2, y3, rs⟩]⟩) := ⟨HBN.out rfl⟩
    have SQ := smallQ_ok _ _ w4 Q4
    have d0 := N2.cellv (v := .string x0) 0 rfl
    have d1 := N2.cellv (v := .slice ag ng cg) 1 rfl
    have d2 := N2.cellv (v := .string x2) 2 rfl
    have d3 := N2.cellv (v := .string x3) 3 rfl
    have d4 := N2.cellv (v := .string x4) 4 rfl
    have d5 := N2.cellv (v := .int .i64 x5) 5 rfl
    have H4 : Hd (Below u.heap.size u w4) := ⟨b4⟩
    clear N2 B4 Q4 b4 HBN
    go_wp2_with fail
    refine SQ.mono ?_
    rintro e w5 ⟨⟨b, rfl, hgn⟩, b5⟩
    have b5' : Below u.heap.size u w5 := H4.out.trans (b5.mono H4.out.size)
    have HGN : Hd _ := ⟨hgn⟩
    clear SQ b5 H4 d0 d1 d2 d3 d4 d5 hgn
    have B5 := (HM.out w5 b5').2.2.2.1
    cases b with
    | false =>
      clear b5'
      go_wp2_with fail
      go_ret
      exact ⟨rfl, B5⟩
    | true =>
      have HGL : Hd (L.length ≤ 40) := ⟨HGN.out rfl⟩
      have HCP : Hd (∀ W, Below u.heap.size u W → (Calls Try.prog 10 #[.agg #[.int .i64 0, .int .i64 0, .int .i64 0, .int .i64 0, .slice none 0 0, .slice (some ⟨gR, 0, none⟩) 1 1]] W fun e w' => FCf W ⟨0, 0, 0, 0, [], [⟨y0, y1, y2, y3, rs⟩]⟩ e w') ∧ (Calls Try.prog 11 #[.agg #[.string x0, .slice ag ng cg, .string x2, .string x3, .string x4, .int .i64 x5]] W fun e w' => FQ W ⟨x0, L, x2, x3, x4, x5⟩ e w')) := ⟨fun W b => by
        obtain ⟨-, -, -, -, -, P1, P2, -⟩ := HM.out W b
        exact ⟨copy_ok _ _ W P2 (HRN.out.mono (by decide)), copyQ_ok _ _ W P1 (by have := HGL.out; simp only; omega)⟩⟩
      have HRD : Hd (∀ W bL nL dL bS nS dS, LvW u.heap.size W (.slice bL nL dL) [] → (∃ V, ScW u.heap.size W (.slice bS nS dS) [⟨y0, y1, y2, y3, rs⟩] V) → CfR W (.agg #[.int .i64 0, .int .i64 0, .int .i64 0, .int .i64 0, .slice bL nL dL, .slice bS nS dS]) ⟨0, 0, 0, 0, [], [⟨y0, y1, y2, y3, rs⟩]⟩) := ⟨fun W bL nL dL bS nS dS h1 h2 => by
        obtain ⟨V, h2⟩ := h2
        exact CfW.read (B := u.heap.size) ⟨_, _, V, rfl, h1, h2⟩ (HM.out u (Below.refl _ _)).2.2.2.2.2.2.1.fits⟩
      have HRQ : Hd (∀ W aq nq cq, OwnT u.heap.size W (.slice aq nq cq) L → RqR W (.agg #[.string x0, .slice aq nq cq, .string x2, .string x3, .string x4, .int .i64 x5]) ⟨x0, L, x2, x3, x4, x5⟩) := ⟨fun W aq nq cq h => by
        obtain ⟨-, -, -, -, -, P1, -, P3⟩ := HM.out u (Below.refl _ _)
        have f := P3.fits
        exact ⟨⟨aq, nq, cq, rfl, own_ls h f.1 f.2⟩, P1.sz⟩⟩
      clear HRN HGN HGL B5
      go_upto_region 6 with fail
      go_cut [6, 7] from 23 to 26 (fun s6 s7 wx => Ma u ⟨0, 0, 0, 0, [], [⟨y0, y1, y2, y3, rs⟩]⟩ x0 L x2 x3 x4 x5 s6 s7 wx)
      case first =>
        have DR : Below w5.heap.size w5 w5.drew := ⟨rfl, rfl, rfl, Nat.le_refl _, fun _ _ => rfl⟩
        have bw0 : Below u.heap.size u w5.drew := b5'.trans (DR.mono b5'.size)
        refine AnyG.start (T := fun W => Below u.heap.size u W) (U := fun _ => True) (j0 := 100) (by kernel_rfl) ?_
        clear DR b5'
        generalize w5.drew = w0 at *
        refine .tq 0 23 bw0 ?_ (hy := fun w hSw => by have M := (HM.out w hSw).2.2.1; have s0 := M.cellv (v := .int .i64 0) 0 rfl; have s1 := M.cellv (v := .int .i64 0) 1 rfl; have s2 := M.cellv (v := .int .i64 0) 2 rfl; have s3 := M.cellv (v := .int .i64 0) 3 rfl; have s4 := M.cellv (v := .slice none 0 0) 4 rfl; have s5 := M.cellv (v := .slice (some ⟨gR, 0, none⟩) 1 1) 5 rfl; go_simp; rfl); simp only [tkA, tkB, tkC]
        refine .tq 2 25 bw0 ?_ (hy := fun w hSw => by have M := (HM.out w hSw).2.1; have s0 := M.cellv (v := .string x0) 0 rfl; have s1 := M.cellv (v := .slice ag ng cg) 1 rfl; have s2 := M.cellv (v := .string x2) 2 rfl; have s3 := M.cellv (v := .string x3) 3 rfl; have s4 := M.cellv (v := .string x4) 4 rfl; have s5 := M.cellv (v := .int .i64 x5) 5 rfl; go_simp; rfl); simp only [tkA, tkB, tkC]
        clear HM
        refine AnyG.ready (rs := [1, 4, 5]) (by kernel_rfl) (by simp) ?_
        refine AllG.cons rfl (fun K hK => ?_) (AllG.cons rfl (fun K hK => ?_) (AllG.cons rfl (fun K hK => ?_) AllG.nil))
        · skip
          go_simp
          refine (HCP.out w0 bw0).1.mono ?_
          rintro e v1 ⟨⟨vm, rfl, hvm⟩, bb⟩
          have bv1 : Below u.heap.size u v1 := bw0.trans (bb.mono bw0.size)
          obtain ⟨bL, nL, dL, bS, nS, dS, VV, rfl, LW0, SW0⟩ := cfw_shape hvm
          have LW := LW0.mono bw0.size
          have SW := SW0.mono bw0.size
          refine hK.out _ _ ⟨bv1, fun _ => trivial⟩ ?_
          clear hK K bb bw0 hvm LW0 SW0
          refine AnyG.ready (rs := [3, 4, 5]) (by kernel_rfl) (by simp) ?_
          refine AllG.cons rfl (fun K hK => ?_) (AllG.cons rfl (fun K hK => ?_) (AllG.cons rfl (fun K hK => ?_) AllG.nil))
          · skip
            go_simp
            refine (HCP.out v1 bv1).2.mono ?_
            rintro e v2 ⟨⟨aq, nq, cq, rfl, hoq⟩, bb⟩
            have bv2 : Below u.heap.size u v2 := bv1.trans (bb.mono bv1.size)
            replace LW := LW.grown bb
            replace SW := SW.grown bb
            have OQ := hoq.mono bv1.size
            refine hK.out _ _ ⟨bv2, fun _ => trivial⟩ ?_
            clear hK K bb bv1 hoq
            refine AnyG.ready (rs := [4, 5]) (by kernel_rfl) (by simp) ?_
            refine AllG.cons rfl (fun K hK => ?_) (AllG.cons rfl (fun K hK => ?_) AllG.nil)
            · skip
              go_simp
              have AL := alloc_below v2 (.cells #[.int .i64 0, .int .i64 0, .int .i64 0, .int .i64 0, .slice none 0 0, .slice none 0 0] 32)
              have bv3 : Below u.heap.size u (v2.alloc (.cells #[.int .i64 0, .int .i64 0, .int .i64 0, .int .i64 0, .slice none 0 0, .slice none 0 0] 32)) := bv2.trans (AL.mono bv2.size)
              have N6 := Blk.new v2 32 #[.int .i64 0, .int .i64 0, .int .i64 0, .int .i64 0, .slice none 0 0, .slice none 0 0]
              have Hg6 : Hd (u.heap.size ≤ v2.heap.size) := ⟨bv2.size⟩
              replace LW := LW.grown AL
              replace SW := SW.grown AL
              replace OQ := OQ.off (Kept.of_below AL (fun _ => False)) (Off.none _ _)
              refine hK.out _ _ ⟨bv3, fun _ => trivial⟩ ?_
              clear hK K AL bv2
              generalize v2.alloc (.cells #[.int .i64 0, .int .i64 0, .int .i64 0, .int .i64 0, .slice none 0 0, .slice none 0 0] 32) = v3 at *
              generalize v2.heap.size = g6 at *
              refine AnyG.ready (rs := [5]) (by kernel_rfl) (by simp) ?_
              refine AllG.cons rfl (fun K hK => ?_) AllG.nil
              go_simp
              have AL := alloc_below v3 (.cells #[.string ⟨#[]⟩, .slice none 0 0, .string ⟨#[]⟩, .string ⟨#[]⟩, .string ⟨#[]⟩, .int .i64 0] 27)
              have bv4 : Below u.heap.size u (v3.alloc (.cells #[.string ⟨#[]⟩, .slice none 0 0, .string ⟨#[]⟩, .string ⟨#[]⟩, .string ⟨#[]⟩, .int .i64 0] 27)) := bv3.trans (AL.mono bv3.size)
              have N7 := Blk.new v3 27 #[.string ⟨#[]⟩, .slice none 0 0, .string ⟨#[]⟩, .string ⟨#[]⟩, .string ⟨#[]⟩, .int .i64 0]
              have Hg7 : Hd (u.heap.size ≤ v3.heap.size) := ⟨bv3.size⟩
              replace LW := LW.grown AL
              replace SW := SW.grown AL
              replace OQ := OQ.off (Kept.of_below AL (fun _ => False)) (Off.none _ _)
              replace N6 := N6.kept (Kept.of_below AL (fun _ => False)) id
              refine hK.out _ _ ⟨bv4, fun _ => trivial⟩ ?_
              clear hK K AL bv3
              generalize v3.alloc (.cells #[.string ⟨#[]⟩, .slice none 0 0, .string ⟨#[]⟩, .string ⟨#[]⟩, .string ⟨#[]⟩, .int .i64 0] 27) = v4 at *
              generalize v3.heap.size = g7 at *
              obtain ⟨FS, FB, F1, F2, F3, F4⟩ := all_fin (x0 := x0) (x2 := x2) (x3 := x3) (x4 := x4) (x5 := x5) Hg6.out Hg7.out bv4 N6 N7 LW SW OQ
              have z0 := N6.cellv (v := .int .i64 0) 0 rfl
              have z1 := N6.cellv (v := .int .i64 0) 1 rfl
              have z2 := N6.cellv (v := .int .i64 0) 2 rfl
              have z3 := N6.cellv (v := .int .i64 0) 3 rfl
              have z4 := N6.cellv (v := .slice none 0 0) 4 rfl
              have z5 := N6.cellv (v := .slice none 0 0) 5 rfl
              have t0 := N6.frozen 0
              have t1 := N6.frozen 1
              have t2 := N6.frozen 2
              have t3 := N6.frozen 3
              have t4 := N6.frozen 4
              have t5 := N6.frozen 5
              refine AnyG.ready (rs := [6]) (by kernel_rfl) (by simp) ?_
              refine AllG.cons rfl (fun K hK => ?_) AllG.nil
              go_simp
              refine hK.out _ _ ⟨FS.1, fun _ => trivial⟩ ?_
              clear hK K z0 z1 z2 z3 z4 z5 t0 t1 t2 t3 t4 t5
              generalize World.setCell _ _ _ = WS at *
              have z0 := FS.2.cellv (v := .string ⟨#[]⟩) 0 rfl
              have z1 := FS.2.cellv (v := .slice none 0 0) 1 rfl
              have z2 := FS.2.cellv (v := .string ⟨#[]⟩) 2 rfl
              have z3 := FS.2.cellv (v := .string ⟨#[]⟩) 3 rfl
              have z4 := FS.2.cellv (v := .string ⟨#[]⟩) 4 rfl
              have z5 := FS.2.cellv (v := .int .i64 0) 5 rfl
              have t0 := FS.2.frozen 0
              have t1 := FS.2.frozen 1
              have t2 := FS.2.frozen 2
              have t3 := FS.2.frozen 3
              have t4 := FS.2.frozen 4
              have t5 := FS.2.frozen 5
              refine AnyG.ready (rs := [7]) (by kernel_rfl) (by simp) ?_
              refine AllG.cons rfl (fun K hK => ?_) AllG.nil
              go_simp
              refine hK.out _ _ ⟨FB, fun _ => trivial⟩ ?_
              refine AnyG.done (by kernel_rfl) ?_ _
              go_wp2_with fail
              go_meet
              exact ⟨g6, g7, bL, nL, dL, bS, nS, dS, aq, nq, cq, rfl, rfl, FB, F1, F2, HRD.out _ _ _ _ _ _ _ F3.1 ⟨_, F3.2⟩, HRQ.out _ _ _ _ F4⟩
            · skip
              go_simp
              have AL := alloc_below v2 (.cells #[.string ⟨#[]⟩, .slice none 0 0, .string ⟨#[]⟩, .string ⟨#[]⟩, .string ⟨#[]⟩, .int .i64 0] 27)
              have bv5 : Below u.heap.size u (v2.alloc (.cells #[.string ⟨#[]⟩, .slice none 0 0, .string ⟨#[]⟩, .string ⟨#[]⟩, .string ⟨#[]⟩, .int .i64 0] 27)) := bv2.trans (AL.mono bv2.size)
              have N7 := Blk.new v2 27 #[.string ⟨#[]⟩, .slice none 0 0, .string ⟨#[]⟩, .string ⟨#[]⟩, .string ⟨#[]⟩, .int .i64 0]
              have Hg7 : Hd (u.heap.size ≤ v2.heap.size) := ⟨bv2.size⟩
              replace LW := LW.grown AL
              replace SW := SW.grown AL
              replace OQ := OQ.off (Kept.of_below AL (fun _ => False)) (Off.none _ _)
              refine hK.out _ _ ⟨bv5, fun _ => trivial⟩ ?_
              clear hK K AL bv2
              generalize v2.alloc (.cells #[.string ⟨#[]⟩, .slice none 0 0, .string ⟨#[]⟩, .string ⟨#[]⟩, .string ⟨#[]⟩, .int .i64 0] 27) = v5 at *
              generalize v2.heap.size = g7 at *
              refine AnyG.ready (rs := [4]) (by kernel_rfl) (by simp) ?_
              refine AllG.cons rfl (fun K hK => ?_) AllG.nil
              go_simp
              have AL := alloc_below v5 (.cells #[.int .i64 0, .int .i64 0, .int .i64 0, .int .i64 0, .slice none 0 0, .slice none 0 0] 32)
              have bv6 : Below u.heap.size u (v5.alloc (.cells #[.int .i64 0, .int .i64 0, .int .i64 0, .int .i64 0, .slice none 0 0, .slice none 0 0] 32)) := bv5.trans (AL.mono bv5.size)
              have N6 := Blk.new v5 32 #[.int .i64 0, .int .i64 0, .int .i64 0, .int .i64 0, .slice none 0 0, .slice none 0 0]
              have Hg6 : Hd (u.heap.size ≤ v5.heap.size) := ⟨bv5.size⟩
              replace LW := LW.grown AL
              replace SW := SW.grown AL
              replace OQ := OQ.off (Kept.of_below AL (fun _ => False)) (Off.none _ _)
              replace N7 := N7.kept (Kept.of_below AL (fun _ => False)) id
              refine hK.out _ _ ⟨bv6, fun _ => trivial⟩ ?_
              clear hK K AL bv5
              generalize v5.alloc (.cells #[.int .i64 0, .int .i64 0, .int .i64 0, .int .i64 0, .slice none 0 0, .slice none 0 0] 32) = v6 at *
              generalize v5.heap.size = g6 at *
              obtain ⟨FS, FB, F1, F2, F3, F4⟩ := all_fin (x0 := x0) (x2 := x2) (x3 := x3) (x4 := x4) (x5 := x5) Hg6.out Hg7.out bv6 N6 N7 LW SW OQ
              have z0 := N6.cellv (v := .int .i64 0) 0 rfl
              have z1 := N6.cellv (v := .int .i64 0) 1 rfl
              have z2 := N6.cellv (v := .int .i64 0) 2 rfl
              have z3 := N6.cellv (v := .int .i64 0) 3 rfl
              have z4 := N6.cellv (v := .slice none 0 0) 4 rfl
              have z5 := N6.cellv (v := .slice none 0 0) 5 rfl
              have t0 := N6.frozen 0
              have t1 := N6.frozen 1
              have t2 := N6.frozen 2
              have t3 := N6.frozen 3
              have t4 := N6.frozen 4
              have t5 := N6.frozen 5
              refine AnyG.ready (rs := [6]) (by kernel_rfl) (by simp) ?_
              refine AllG.cons rfl (fun K hK => ?_) AllG.nil
              go_simp
              refine hK.out _ _ ⟨FS.1, fun _ => trivial⟩ ?_
              clear hK K z0 z1 z2 z3 z4 z5 t0 t1 t2 t3 t4 t5
              generalize World.setCell _ _ _ = WS at *
              have z0 := FS.2.cellv (v := .string ⟨#[]⟩) 0 rfl
              have z1 := FS.2.cellv (v := .slice none 0 0) 1 rfl
              have z2 := FS.2.cellv (v := .string ⟨#[]⟩) 2 rfl
              have z3 := FS.2.cellv (v := .string ⟨#[]⟩) 3 rfl
              have z4 := FS.2.cellv (v := .string ⟨#[]⟩) 4 rfl
              have z5 := FS.2.cellv (v := .int .i64 0) 5 rfl
              have t0 := FS.2.frozen 0
              have t1 := FS.2.frozen 1
              have t2 := FS.2.frozen 2
              have t3 := FS.2.frozen 3
              have t4 := FS.2.frozen 4
              have t5 := FS.2.frozen 5
              refine AnyG.ready (rs := [7]) (by kernel_rfl) (by simp) ?_
              refine AllG.cons rfl (fun K hK => ?_) AllG.nil
              go_simp
              refine hK.out _ _ ⟨FB, fun _ => trivial⟩ ?_
              refine AnyG.done (by kernel_rfl) ?_ _
              go_wp2_with fail
              go_meet
              exact ⟨g6, g7, bL, nL, dL, bS, nS, dS, aq, nq, cq, rfl, rfl, FB, F1, F2, HRD.out _ _ _ _ _ _ _ F3.1 ⟨_, F3.2⟩, HRQ.out _ _ _ _ F4⟩
          · skip
            go_simp
            have AL := alloc_below v1 (.cells #[.int .i64 0, .int .i64 0, .int .i64 0, .int .i64 0, .slice none 0 0, .slice none 0 0] 32)
            have bv7 : Below u.heap.size u (v1.alloc (.cells #[.int .i64 0, .int .i64 0, .int .i64 0, .int .i64 0, .slice none 0 0, .slice none 0 0] 32)) := bv1.trans (AL.mono bv1.size)
            have N6 := Blk.new v1 32 #[.int .i64 0, .int .i64 0, .int .i64 0, .int .i64 0, .slice none 0 0, .slice none 0 0]
            have Hg6 : Hd (u.heap.size ≤ v1.heap.size) := ⟨bv1.size⟩
            replace LW := LW.grown AL
            replace SW := SW.grown AL
            refine hK.out _ _ ⟨bv7, fun _ => trivial⟩ ?_
            clear hK K AL bv1
            generalize v1.alloc (.cells #[.int .i64 0, .int .i64 0, .int .i64 0, .int .i64 0, .slice none 0 0, .slice none 0 0] 32) = v7 at *
            generalize v1.heap.size = g6 at *
            refine AnyG.ready (rs := [3, 5]) (by kernel_rfl) (by simp) ?_
            refine AllG.cons rfl (fun K hK => ?_) (AllG.cons rfl (fun K hK => ?_) AllG.nil)
            · skip
              go_simp
              refine (HCP.out v7 bv7).2.mono ?_
              rintro e v8 ⟨⟨aq, nq, cq, rfl, hoq⟩, bb⟩
              have bv8 : Below u.heap.size u v8 := bv7.trans (bb.mono bv7.size)
              replace LW := LW.grown bb
              replace SW := SW.grown bb
              replace N6 := N6.kept (Kept.of_below bb (fun _ => False)) id
              have OQ := hoq.mono bv7.size
              refine hK.out _ _ ⟨bv8, fun _ => trivial⟩ ?_
              clear hK K bb bv7 hoq
              refine AnyG.ready (rs := [5]) (by kernel_rfl) (by simp) ?_
              refine AllG.cons rfl (fun K hK => ?_) AllG.nil
              go_simp
              have AL := alloc_below v8 (.cells #[.string ⟨#[]⟩, .slice none 0 0, .string ⟨#[]⟩, .string ⟨#[]⟩, .string ⟨#[]⟩, .int .i64 0] 27)
              have bv9 : Below u.heap.size u (v8.alloc (.cells #[.string ⟨#[]⟩, .slice none 0 0, .string ⟨#[]⟩, .string ⟨#[]⟩, .string ⟨#[]⟩, .int .i64 0] 27)) := bv8.trans (AL.mono bv8.size)
              have N7 := Blk.new v8 27 #[.string ⟨#[]⟩, .slice none 0 0, .string ⟨#[]⟩, .string ⟨#[]⟩, .string ⟨#[]⟩, .int .i64 0]
              have Hg7 : Hd (u.heap.size ≤ v8.heap.size) := ⟨bv8.size⟩
              replace LW := LW.grown AL
              replace SW := SW.grown AL
              replace OQ := OQ.off (Kept.of_below AL (fun _ => False)) (Off.none _ _)
              replace N6 := N6.kept (Kept.of_below AL (fun _ => False)) id
              refine hK.out _ _ ⟨bv9, fun _ => trivial⟩ ?_
              clear hK K AL bv8
              generalize v8.alloc (.cells #[.string ⟨#[]⟩, .slice none 0 0, .string ⟨#[]⟩, .string ⟨#[]⟩, .string ⟨#[]⟩, .int .i64 0] 27) = v9 at *
              generalize v8.heap.size = g7 at *
              obtain ⟨FS, FB, F1, F2, F3, F4⟩ := all_fin (x0 := x0) (x2 := x2) (x3 := x3) (x4 := x4) (x5 := x5) Hg6.out Hg7.out bv9 N6 N7 LW SW OQ
              have z0 := N6.cellv (v := .int .i64 0) 0 rfl
              have z1 := N6.cellv (v := .int .i64 0) 1 rfl
              have z2 := N6.cellv (v := .int .i64 0) 2 rfl
              have z3 := N6.cellv (v := .int .i64 0) 3 rfl
              have z4 := N6.cellv (v := .slice none 0 0) 4 rfl
              have z5 := N6.cellv (v := .slice none 0 0) 5 rfl
              have t0 := N6.frozen 0
              have t1 := N6.frozen 1
              have t2 := N6.frozen 2
              have t3 := N6.frozen 3
              have t4 := N6.frozen 4
              have t5 := N6.frozen 5
              refine AnyG.ready (rs := [6]) (by kernel_rfl) (by simp) ?_
              refine AllG.cons rfl (fun K hK => ?_) AllG.nil
              go_simp
              refine hK.out _ _ ⟨FS.1, fun _ => trivial⟩ ?_
              clear hK K z0 z1 z2 z3 z4 z5 t0 t1 t2 t3 t4 t5
              generalize World.setCell _ _ _ = WS at *
              have z0 := FS.2.cellv (v := .string ⟨#[]⟩) 0 rfl
              have z1 := FS.2.cellv (v := .slice none 0 0) 1 rfl
              have z2 := FS.2.cellv (v := .string ⟨#[]⟩) 2 rfl
              have z3 := FS.2.cellv (v := .string ⟨#[]⟩) 3 rfl
              have z4 := FS.2.cellv (v := .string ⟨#[]⟩) 4 rfl
              have z5 := FS.2.cellv (v := .int .i64 0) 5 rfl
              have t0 := FS.2.frozen 0
              have t1 := FS.2.frozen 1
              have t2 := FS.2.frozen 2
              have t3 := FS.2.frozen 3
              have t4 := FS.2.frozen 4
              have t5 := FS.2.frozen 5
              refine AnyG.ready (rs := [7]) (by kernel_rfl) (by simp) ?_
              refine AllG.cons rfl (fun K hK => ?_) AllG.nil
              go_simp
              refine hK.out _ _ ⟨FB, fun _ => trivial⟩ ?_
              refine AnyG.done (by kernel_rfl) ?_ _
              go_wp2_with fail
              go_meet
              exact ⟨g6, g7, bL, nL, dL, bS, nS, dS, aq, nq, cq, rfl, rfl, FB, F1, F2, HRD.out _ _ _ _ _ _ _ F3.1 ⟨_, F3.2⟩, HRQ.out _ _ _ _ F4⟩
            · skip
              go_simp
              have AL := alloc_below v7 (.cells #[.string ⟨#[]⟩, .slice none 0 0, .string ⟨#[]⟩, .string ⟨#[]⟩, .string ⟨#[]⟩, .int .i64 0] 27)
              have bv10 : Below u.heap.size u (v7.alloc (.cells #[.string ⟨#[]⟩, .slice none 0 0, .string ⟨#[]⟩, .string ⟨#[]⟩, .string ⟨#[]⟩, .int .i64 0] 27)) := bv7.trans (AL.mono bv7.size)
              have N7 := Blk.new v7 27 #[.string ⟨#[]⟩, .slice none 0 0, .string ⟨#[]⟩, .string ⟨#[]⟩, .string ⟨#[]⟩, .int .i64 0]
              have Hg7 : Hd (u.heap.size ≤ v7.heap.size) := ⟨bv7.size⟩
              replace LW := LW.grown AL
              replace SW := SW.grown AL
              replace N6 := N6.kept (Kept.of_below AL (fun _ => False)) id
              refine hK.out _ _ ⟨bv10, fun _ => trivial⟩ ?_
              clear hK K AL bv7
              generalize v7.alloc (.cells #[.string ⟨#[]⟩, .slice none 0 0, .string ⟨#[]⟩, .string ⟨#[]⟩, .string ⟨#[]⟩, .int .i64 0] 27) = v10 at *
              generalize v7.heap.size = g7 at *
              refine AnyG.ready (rs := [3]) (by kernel_rfl) (by simp) ?_
              refine AllG.cons rfl (fun K hK => ?_) AllG.nil
              go_simp
              refine (HCP.out v10 bv10).2.mono ?_
              rintro e v11 ⟨⟨aq, nq, cq, rfl, hoq⟩, bb⟩
              have bv11 : Below u.heap.size u v11 := bv10.trans (bb.mono bv10.size)
              replace LW := LW.grown bb
              replace SW := SW.grown bb
              replace N6 := N6.kept (Kept.of_below bb (fun _ => False)) id
              replace N7 := N7.kept (Kept.of_below bb (fun _ => False)) id
              have OQ := hoq.mono bv10.size
              refine hK.out _ _ ⟨bv11, fun _ => trivial⟩ ?_
              clear hK K bb bv10 hoq
              obtain ⟨FS, FB, F1, F2, F3, F4⟩ := all_fin (x0 := x0) (x2 := x2) (x3 := x3) (x4 := x4) (x5 := x5) Hg6.out Hg7.out bv11 N6 N7 LW SW OQ
              have z0 := N6.cellv (v := .int .i64 0) 0 rfl
              have z1 := N6.cellv (v := .int .i64 0) 1 rfl
              have z2 := N6.cellv (v := .int .i64 0) 2 rfl
              have z3 := N6.cellv (v := .int .i64 0) 3 rfl
              have z4 := N6.cellv (v := .slice none 0 0) 4 rfl
              have z5 := N6.cellv (v := .slice none 0 0) 5 rfl
              have t0 := N6.frozen 0
              have t1 := N6.frozen 1
              have t2 := N6.frozen 2
              have t3 := N6.frozen 3
              have t4 := N6.frozen 4
              have t5 := N6.frozen 5
              refine AnyG.ready (rs := [6]) (by kernel_rfl) (by simp) ?_
              refine AllG.cons rfl (fun K hK => ?_) AllG.nil
              go_simp
              refine hK.out _ _ ⟨FS.1, fun _ => trivial⟩ ?_
              clear hK K z0 z1 z2 z3 z4 z5 t0 t1 t2 t3 t4 t5
              generalize World.setCell _ _ _ = WS at *
              have z0 := FS.2.cellv (v := .string ⟨#[]⟩) 0 rfl
              have z1 := FS.2.cellv (v := .slice none 0 0) 1 rfl
              have z2 := FS.2.cellv (v := .string ⟨#[]⟩) 2 rfl
              have z3 := FS.2.cellv (v := .string ⟨#[]⟩) 3 rfl
              have z4 := FS.2.cellv (v := .string ⟨#[]⟩) 4 rfl
              have z5 := FS.2.cellv (v := .int .i64 0) 5 rfl
              have t0 := FS.2.frozen 0
              have t1 := FS.2.frozen 1
              have t2 := FS.2.frozen 2
              have t3 := FS.2.frozen 3
              have t4 := FS.2.frozen 4
              have t5 := FS.2.frozen 5
              refine AnyG.ready (rs := [7]) (by kernel_rfl) (by simp) ?_
              refine AllG.cons rfl (fun K hK => ?_) AllG.nil
              go_simp
              refine hK.out _ _ ⟨FB, fun _ => trivial⟩ ?_
              refine AnyG.done (by kernel_rfl) ?_ _
              go_wp2_with fail
              go_meet
              exact ⟨g6, g7, bL, nL, dL, bS, nS, dS, aq, nq, cq, rfl, rfl, FB, F1, F2, HRD.out _ _ _ _ _ _ _ F3.1 ⟨_, F3.2⟩, HRQ.out _ _ _ _ F4⟩
          · skip
            go_simp
            have AL := alloc_below v1 (.cells #[.string ⟨#[]⟩, .slice none 0 0, .string ⟨#[]⟩, .string ⟨#[]⟩, .string ⟨#[]⟩, .int .i64 0] 27)
            have bv12 : Below u.heap.size u (v1.alloc (.cells #[.string ⟨#[]⟩, .slice none 0 0, .string ⟨#[]⟩, .string ⟨#[]⟩, .string ⟨#[]⟩, .int .i64 0] 27)) := bv1.trans (AL.mono bv1.size)
            have N7 := Blk.new v1 27 #[.string ⟨#[]⟩, .slice none 0 0, .string ⟨#[]⟩, .string ⟨#[]⟩, .string ⟨#[]⟩, .int .i64 0]
            have Hg7 : Hd (u.heap.size ≤ v1.heap.size) := ⟨bv1.size⟩
            replace LW := LW.grown AL
            replace SW := SW.grown AL
            refine hK.out _ _ ⟨bv12, fun _ => trivial⟩ ?_
            clear hK K AL bv1
            generalize v1.alloc (.cells #[.string ⟨#[]⟩, .slice none 0 0, .string ⟨#[]⟩, .string ⟨#[]⟩, .string ⟨#[]⟩, .int .i64 0] 27) = v12 at *
            generalize v1.heap.size = g7 at *
            refine AnyG.ready (rs := [3, 4]) (by kernel_rfl) (by simp) ?_
            refine AllG.cons rfl (fun K hK => ?_) (AllG.cons rfl (fun K hK => ?_) AllG.nil)
            · skip
              go_simp
              refine (HCP.out v12 bv12).2.mono ?_
              rintro e v13 ⟨⟨aq, nq, cq, rfl, hoq⟩, bb⟩
              have bv13 : Below u.heap.size u v13 := bv12.trans (bb.mono bv12.size)
              replace LW := LW.grown bb
              replace SW := SW.grown bb
              replace N7 := N7.kept (Kept.of_below bb (fun _ => False)) id
              have OQ := hoq.mono bv12.size
              refine hK.out _ _ ⟨bv13, fun _ => trivial⟩ ?_
              clear hK K bb bv12 hoq
              refine AnyG.ready (rs := [4]) (by kernel_rfl) (by simp) ?_
              refine AllG.cons rfl (fun K hK => ?_) AllG.nil
              go_simp
              have AL := alloc_below v13 (.cells #[.int .i64 0, .int .i64 0, .int .i64 0, .int .i64 0, .slice none 0 0, .slice none 0 0] 32)
              have bv14 : Below u.heap.size u (v13.alloc (.cells #[.int .i64 0, .int .i64 0, .int .i64 0, .int .i64 0, .slice none 0 0, .slice none 0 0] 32)) := bv13.trans (AL.mono bv13.size)
              have N6 := Blk.new v13 32 #[.int .i64 0, .int .i64 0, .int .i64 0, .int .i64 0, .slice none 0 0, .slice none 0 0]
              have Hg6 : Hd (u.heap.size ≤ v13.heap.size) := ⟨bv13.size⟩
              replace LW := LW.grown AL
              replace SW := SW.grown AL
              replace OQ := OQ.off (Kept.of_below AL (fun _ => False)) (Off.none _ _)
              replace N7 := N7.kept (Kept.of_below AL (fun _ => False)) id
              refine hK.out _ _ ⟨bv14, fun _ => trivial⟩ ?_
              clear hK K AL bv13
              generalize v13.alloc (.cells #[.int .i64 0, .int .i64 0, .int .i64 0, .int .i64 0, .slice none 0 0, .slice none 0 0] 32) = v14 at *
              generalize v13.heap.size = g6 at *
              obtain ⟨FS, FB, F1, F2, F3, F4⟩ := all_fin (x0 := x0) (x2 := x2) (x3 := x3) (x4 := x4) (x5 := x5) Hg6.out Hg7.out bv14 N6 N7 LW SW OQ
              have z0 := N6.cellv (v := .int .i64 0) 0 rfl
              have z1 := N6.cellv (v := .int .i64 0) 1 rfl
              have z2 := N6.cellv (v := .int .i64 0) 2 rfl
              have z3 := N6.cellv (v := .int .i64 0) 3 rfl
              have z4 := N6.cellv (v := .slice none 0 0) 4 rfl
              have z5 := N6.cellv (v := .slice none 0 0) 5 rfl
              have t0 := N6.frozen 0
              have t1 := N6.frozen 1
              have t2 := N6.frozen 2
              have t3 := N6.frozen 3
              have t4 := N6.frozen 4
              have t5 := N6.frozen 5
              refine AnyG.ready (rs := [6]) (by kernel_rfl) (by simp) ?_
              refine AllG.cons rfl (fun K hK => ?_) AllG.nil
              go_simp
              refine hK.out _ _ ⟨FS.1, fun _ => trivial⟩ ?_
              clear hK K z0 z1 z2 z3 z4 z5 t0 t1 t2 t3 t4 t5
              generalize World.setCell _ _ _ = WS at *
              have z0 := FS.2.cellv (v := .string ⟨#[]⟩) 0 rfl
              have z1 := FS.2.cellv (v := .slice none 0 0) 1 rfl
              have z2 := FS.2.cellv (v := .string ⟨#[]⟩) 2 rfl
              have z3 := FS.2.cellv (v := .string ⟨#[]⟩) 3 rfl
              have z4 := FS.2.cellv (v := .string ⟨#[]⟩) 4 rfl
              have z5 := FS.2.cellv (v := .int .i64 0) 5 rfl
              have t0 := FS.2.frozen 0
              have t1 := FS.2.frozen 1
              have t2 := FS.2.frozen 2
              have t3 := FS.2.frozen 3
              have t4 := FS.2.frozen 4
              have t5 := FS.2.frozen 5
              refine AnyG.ready (rs := [7]) (by kernel_rfl) (by simp) ?_
              refine AllG.cons rfl (fun K hK => ?_) AllG.nil
              go_simp
              refine hK.out _ _ ⟨FB, fun _ => trivial⟩ ?_
              refine AnyG.done (by kernel_rfl) ?_ _
              go_wp2_with fail
              go_meet
              exact ⟨g6, g7, bL, nL, dL, bS, nS, dS, aq, nq, cq, rfl, rfl, FB, F1, F2, HRD.out _ _ _ _ _ _ _ F3.1 ⟨_, F3.2⟩, HRQ.out _ _ _ _ F4⟩
            · skip
              go_simp
              have AL := alloc_below v12 (.cells #[.int .i64 0, .int .i64 0, .int .i64 0, .int .i64 0, .slice none 0 0, .slice none 0 0] 32)
              have bv15 : Below u.heap.size u (v12.alloc (.cells #[.int .i64 0, .int .i64 0, .int .i64 0, .int .i64 0, .slice none 0 0, .slice none 0 0] 32)) := bv12.trans (AL.mono bv12.size)
              have N6 := Blk.new v12 32 #[.int .i64 0, .int .i64 0, .int .i64 0, .int .i64 0, .slice none 0 0, .slice none 0 0]
              have Hg6 : Hd (u.heap.size ≤ v12.heap.size) := ⟨bv12.size⟩
              replace LW := LW.grown AL
              replace SW := SW.grown AL
              replace N7 := N7.kept (Kept.of_below AL (fun _ => False)) id
              refine hK.out _ _ ⟨bv15, fun _ => trivial⟩ ?_
              clear hK K AL bv12
              generalize v12.alloc (.cells #[.int .i64 0, .int .i64 0, .int .i64 0, .int .i64 0, .slice none 0 0, .slice none 0 0] 32) = v15 at *
              generalize v12.heap.size = g6 at *
              refine AnyG.ready (rs := [3]) (by kernel_rfl) (by simp) ?_
              refine AllG.cons rfl (fun K hK => ?_) AllG.nil
              go_simp
              refine (HCP.out v15 bv15).2.mono ?_
              rintro e v16 ⟨⟨aq, nq, cq, rfl, hoq⟩, bb⟩
              have bv16 : Below u.heap.size u v16 := bv15.trans (bb.mono bv15.size)
              replace LW := LW.grown bb
              replace SW := SW.grown bb
              replace N6 := N6.kept (Kept.of_below bb (fun _ => False)) id
              replace N7 := N7.kept (Kept.of_below bb (fun _ => False)) id
              have OQ := hoq.mono bv15.size
              refine hK.out _ _ ⟨bv16, fun _ => trivial⟩ ?_
              clear hK K bb bv15 hoq
              obtain ⟨FS, FB, F1, F2, F3, F4⟩ := all_fin (x0 := x0) (x2 := x2) (x3 := x3) (x4 := x4) (x5 := x5) Hg6.out Hg7.out bv16 N6 N7 LW SW OQ
              have z0 := N6.cellv (v := .int .i64 0) 0 rfl
              have z1 := N6.cellv (v := .int .i64 0) 1 rfl
              have z2 := N6.cellv (v := .int .i64 0) 2 rfl
              have z3 := N6.cellv (v := .int .i64 0) 3 rfl
              have z4 := N6.cellv (v := .slice none 0 0) 4 rfl
              have z5 := N6.cellv (v := .slice none 0 0) 5 rfl
              have t0 := N6.frozen 0
              have t1 := N6.frozen 1
              have t2 := N6.frozen 2
              have t3 := N6.frozen 3
              have t4 := N6.frozen 4
              have t5 := N6.frozen 5
              refine AnyG.ready (rs := [6]) (by kernel_rfl) (by simp) ?_
              refine AllG.cons rfl (fun K hK => ?_) AllG.nil
              go_simp
              refine hK.out _ _ ⟨FS.1, fun _ => trivial⟩ ?_
              clear hK K z0 z1 z2 z3 z4 z5 t0 t1 t2 t3 t4 t5
              generalize World.setCell _ _ _ = WS at *
              have z0 := FS.2.cellv (v := .string ⟨#[]⟩) 0 rfl
              have z1 := FS.2.cellv (v := .slice none 0 0) 1 rfl
              have z2 := FS.2.cellv (v := .string ⟨#[]⟩) 2 rfl
              have z3 := FS.2.cellv (v := .string ⟨#[]⟩) 3 rfl
              have z4 := FS.2.cellv (v := .string ⟨#[]⟩) 4 rfl
              have z5 := FS.2.cellv (v := .int .i64 0) 5 rfl
              have t0 := FS.2.frozen 0
              have t1 := FS.2.frozen 1
              have t2 := FS.2.frozen 2
              have t3 := FS.2.frozen 3
              have t4 := FS.2.frozen 4
              have t5 := FS.2.frozen 5
              refine AnyG.ready (rs := [7]) (by kernel_rfl) (by simp) ?_
              refine AllG.cons rfl (fun K hK => ?_) AllG.nil
              go_simp
              refine hK.out _ _ ⟨FB, fun _ => trivial⟩ ?_
              refine AnyG.done (by kernel_rfl) ?_ _
              go_wp2_with fail
              go_meet
              exact ⟨g6, g7, bL, nL, dL, bS, nS, dS, aq, nq, cq, rfl, rfl, FB, F1, F2, HRD.out _ _ _ _ _ _ _ F3.1 ⟨_, F3.2⟩, HRQ.out _ _ _ _ F4⟩
        · skip
          go_simp
          have AL := alloc_below w0 (.cells #[.int .i64 0, .int .i64 0, .int .i64 0, .int .i64 0, .slice none 0 0, .slice none 0 0] 32)
          have bv17 : Below u.heap.size u (w0.alloc (.cells #[.int .i64 0, .int .i64 0, .int .i64 0, .int .i64 0, .slice none 0 0, .slice none 0 0] 32)) := bw0.trans (AL.mono bw0.size)
          have N6 := Blk.new w0 32 #[.int .i64 0, .int .i64 0, .int .i64 0, .int .i64 0, .slice none 0 0, .slice none 0 0]
          have Hg6 : Hd (u.heap.size ≤ w0.heap.size) := ⟨bw0.size⟩
          refine hK.out _ _ ⟨bv17, fun _ => trivial⟩ ?_
          clear hK K AL bw0
          generalize w0.alloc (.cells #[.int .i64 0, .int .i64 0, .int .i64 0, .int .i64 0, .slice none 0 0, .slice none 0 0] 32) = v17 at *
          generalize w0.heap.size = g6 at *
          refine AnyG.ready (rs := [1, 5]) (by kernel_rfl) (by simp) ?_
          refine AllG.cons rfl (fun K hK => ?_) (AllG.cons rfl (fun K hK => ?_) AllG.nil)
          · skip
            go_simp
            refine (HCP.out v17 bv17).1.mono ?_
            rintro e v18 ⟨⟨vm, rfl, hvm⟩, bb⟩
            have bv18 : Below u.heap.size u v18 := bv17.trans (bb.mono bv17.size)
            replace N6 := N6.kept (Kept.of_below bb (fun _ => False)) id
            obtain ⟨bL, nL, dL, bS, nS, dS, VV, rfl, LW0, SW0⟩ := cfw_shape hvm
            have LW := LW0.mono bv17.size
            have SW := SW0.mono bv17.size
            refine hK.out _ _ ⟨bv18, fun _ => trivial⟩ ?_
            clear hK K bb bv17 hvm LW0 SW0
            refine AnyG.ready (rs := [3, 5]) (by kernel_rfl) (by simp) ?_
            refine AllG.cons rfl (fun K hK => ?_) (AllG.cons rfl (fun K hK => ?_) AllG.nil)
            · skip
              go_simp
              refine (HCP.out v18 bv18).2.mono ?_
              rintro e v19 ⟨⟨aq, nq, cq, rfl, hoq⟩, bb⟩
              have bv19 : Below u.heap.size u v19 := bv18.trans (bb.mono bv18.size)
              replace LW := LW.grown bb
              replace SW := SW.grown bb
              replace N6 := N6.kept (Kept.of_below bb (fun _ => False)) id
              have OQ := hoq.mono bv18.size
              refine hK.out _ _ ⟨bv19, fun _ => trivial⟩ ?_
              clear hK K bb bv18 hoq
              refine AnyG.ready (rs := [5]) (by kernel_rfl) (by simp) ?_
              refine AllG.cons rfl (fun K hK => ?_) AllG.nil
              go_simp
              have AL := alloc_below v19 (.cells #[.string ⟨#[]⟩, .slice none 0 0, .string ⟨#[]⟩, .string ⟨#[]⟩, .string ⟨#[]⟩, .int .i64 0] 27)
              have bv20 : Below u.heap.size u (v19.alloc (.cells #[.string ⟨#[]⟩, .slice none 0 0, .string ⟨#[]⟩, .string ⟨#[]⟩, .string ⟨#[]⟩, .int .i64 0] 27)) := bv19.trans (AL.mono bv19.size)
              have N7 := Blk.new v19 27 #[.string ⟨#[]⟩, .slice none 0 0, .string ⟨#[]⟩, .string ⟨#[]⟩, .string ⟨#[]⟩, .int .i64 0]
              have Hg7 : Hd (u.heap.size ≤ v19.heap.size) := ⟨bv19.size⟩
              replace LW := LW.grown AL
              replace SW := SW.grown AL
              replace OQ := OQ.off (Kept.of_below AL (fun _ => False)) (Off.none _ _)
              replace N6 := N6.kept (Kept.of_below AL (fun _ => False)) id
              refine hK.out _ _ ⟨bv20, fun _ => trivial⟩ ?_
              clear hK K AL bv19
              generalize v19.alloc (.cells #[.string ⟨#[]⟩, .slice none 0 0, .string ⟨#[]⟩, .string ⟨#[]⟩, .string ⟨#[]⟩, .int .i64 0] 27) = v20 at *
              generalize v19.heap.size = g7 at *
              obtain ⟨FS, FB, F1, F2, F3, F4⟩ := all_fin (x0 := x0) (x2 := x2) (x3 := x3) (x4 := x4) (x5 := x5) Hg6.out Hg7.out bv20 N6 N7 LW SW OQ
              have z0 := N6.cellv (v := .int .i64 0) 0 rfl
              have z1 := N6.cellv (v := .int .i64 0) 1 rfl
              have z2 := N6.cellv (v := .int .i64 0) 2 rfl
              have z3 := N6.cellv (v := .int .i64 0) 3 rfl
              have z4 := N6.cellv (v := .slice none 0 0) 4 rfl
              have z5 := N6.cellv (v := .slice none 0 0) 5 rfl
              have t0 := N6.frozen 0
              have t1 := N6.frozen 1
              have t2 := N6.frozen 2
              have t3 := N6.frozen 3
              have t4 := N6.frozen 4
              have t5 := N6.frozen 5
              refine AnyG.ready (rs := [6]) (by kernel_rfl) (by simp) ?_
              refine AllG.cons rfl (fun K hK => ?_) AllG.nil
              go_simp
              refine hK.out _ _ ⟨FS.1, fun _ => trivial⟩ ?_
              clear hK K z0 z1 z2 z3 z4 z5 t0 t1 t2 t3 t4 t5
              generalize World.setCell _ _ _ = WS at *
              have z0 := FS.2.cellv (v := .string ⟨#[]⟩) 0 rfl
              have z1 := FS.2.cellv (v := .slice none 0 0) 1 rfl
              have z2 := FS.2.cellv (v := .string ⟨#[]⟩) 2 rfl
              have z3 := FS.2.cellv (v := .string ⟨#[]⟩) 3 rfl
              have z4 := FS.2.cellv (v := .string ⟨#[]⟩) 4 rfl
              have z5 := FS.2.cellv (v := .int .i64 0) 5 rfl
              have t0 := FS.2.frozen 0
              have t1 := FS.2.frozen 1
              have t2 := FS.2.frozen 2
              have t3 := FS.2.frozen 3
              have t4 := FS.2.frozen 4
              have t5 := FS.2.frozen 5
              refine AnyG.ready (rs := [7]) (by kernel_rfl) (by simp) ?_
              refine AllG.cons rfl (fun K hK => ?_) AllG.nil
              go_simp
              refine hK.out _ _ ⟨FB, fun _ => trivial⟩ ?_
              refine AnyG.done (by kernel_rfl) ?_ _
              go_wp2_with fail
              go_meet
              exact ⟨g6, g7, bL, nL, dL, bS, nS, dS, aq, nq, cq, rfl, rfl, FB, F1, F2, HRD.out _ _ _ _ _ _ _ F3.1 ⟨_, F3.2⟩, HRQ.out _ _ _ _ F4⟩
            · skip
              go_simp
              have AL := alloc_below v18 (.cells #[.string ⟨#[]⟩, .slice none 0 0, .string ⟨#[]⟩, .string ⟨#[]⟩, .string ⟨#[]⟩, .int .i64 0] 27)
              have bv21 : Below u.heap.size u (v18.alloc (.cells #[.string ⟨#[]⟩, .slice none 0 0, .string ⟨#[]⟩, .string ⟨#[]⟩, .string ⟨#[]⟩, .int .i64 0] 27)) := bv18.trans (AL.mono bv18.size)
              have N7 := Blk.new v18 27 #[.string ⟨#[]⟩, .slice none 0 0, .string ⟨#[]⟩, .string ⟨#[]⟩, .string ⟨#[]⟩, .int .i64 0]
              have Hg7 : Hd (u.heap.size ≤ v18.heap.size) := ⟨bv18.size⟩
              replace LW := LW.grown AL
              replace SW := SW.grown AL
              replace N6 := N6.kept (Kept.of_below AL (fun _ => False)) id
              refine hK.out _ _ ⟨bv21, fun _ => trivial⟩ ?_
              clear hK K AL bv18
              generalize v18.alloc (.cells #[.string ⟨#[]⟩, .slice none 0 0, .string ⟨#[]⟩, .string ⟨#[]⟩, .string ⟨#[]⟩, .int .i64 0] 27) = v21 at *
              generalize v18.heap.size = g7 at *
              refine AnyG.ready (rs := [3]) (by kernel_rfl) (by simp) ?_
              refine AllG.cons rfl (fun K hK => ?_) AllG.nil
              go_simp
              refine (HCP.out v21 bv21).2.mono ?_
              rintro e v22 ⟨⟨aq, nq, cq, rfl, hoq⟩, bb⟩
              have bv22 : Below u.heap.size u v22 := bv21.trans (bb.mono bv21.size)
              replace LW := LW.grown bb
              replace SW := SW.grown bb
              replace N6 := N6.kept (Kept.of_below bb (fun _ => False)) id
              replace N7 := N7.kept (Kept.of_below bb (fun _ => False)) id
              have OQ := hoq.mono bv21.size
              refine hK.out _ _ ⟨bv22, fun _ => trivial⟩ ?_
              clear hK K bb bv21 hoq
              obtain ⟨FS, FB, F1, F2, F3, F4⟩ := all_fin (x0 := x0) (x2 := x2) (x3 := x3) (x4 := x4) (x5 := x5) Hg6.out Hg7.out bv22 N6 N7 LW SW OQ
              have z0 := N6.cellv (v := .int .i64 0) 0 rfl
              have z1 := N6.cellv (v := .int .i64 0) 1 rfl
              have z2 := N6.cellv (v := .int .i64 0) 2 rfl
              have z3 := N6.cellv (v := .int .i64 0) 3 rfl
              have z4 := N6.cellv (v := .slice none 0 0) 4 rfl
              have z5 := N6.cellv (v := .slice none 0 0) 5 rfl
              have t0 := N6.frozen 0
              have t1 := N6.frozen 1
              have t2 := N6.frozen 2
              have t3 := N6.frozen 3
              have t4 := N6.frozen 4
              have t5 := N6.frozen 5
              refine AnyG.ready (rs := [6]) (by kernel_rfl) (by simp) ?_
              refine AllG.cons rfl (fun K hK => ?_) AllG.nil
              go_simp
              refine hK.out _ _ ⟨FS.1, fun _ => trivial⟩ ?_
              clear hK K z0 z1 z2 z3 z4 z5 t0 t1 t2 t3 t4 t5
              generalize World.setCell _ _ _ = WS at *
              have z0 := FS.2.cellv (v := .string ⟨#[]⟩) 0 rfl
              have z1 := FS.2.cellv (v := .slice none 0 0) 1 rfl
              have z2 := FS.2.cellv (v := .string ⟨#[]⟩) 2 rfl
              have z3 := FS.2.cellv (v := .string ⟨#[]⟩) 3 rfl
              have z4 := FS.2.cellv (v := .string ⟨#[]⟩) 4 rfl
              have z5 := FS.2.cellv (v := .int .i64 0) 5 rfl
              have t0 := FS.2.frozen 0
              have t1 := FS.2.frozen 1
              have t2 := FS.2.frozen 2
              have t3 := FS.2.frozen 3
              have t4 := FS.2.frozen 4
              have t5 := FS.2.frozen 5
              refine AnyG.ready (rs := [7]) (by kernel_rfl) (by simp) ?_
              refine AllG.cons rfl (fun K hK => ?_) AllG.nil
              go_simp
              refine hK.out _ _ ⟨FB, fun _ => trivial⟩ ?_
              refine AnyG.done (by kernel_rfl) ?_ _
              go_wp2_with fail
              go_meet
              exact ⟨g6, g7, bL, nL, dL, bS, nS, dS, aq, nq, cq, rfl, rfl, FB, F1, F2, HRD.out _ _ _ _ _ _ _ F3.1 ⟨_, F3.2⟩, HRQ.out _ _ _ _ F4⟩
          · skip
            go_simp
            have AL := alloc_below v17 (.cells #[.string ⟨#[]⟩, .slice none 0 0, .string ⟨#[]⟩, .string ⟨#[]⟩, .string ⟨#[]⟩, .int .i64 0] 27)
            have bv23 : Below u.heap.size u (v17.alloc (.cells #[.string ⟨#[]⟩, .slice none 0 0, .string ⟨#[]⟩, .string ⟨#[]⟩, .string ⟨#[]⟩, .int .i64 0] 27)) := bv17.trans (AL.mono bv17.size)
            have N7 := Blk.new v17 27 #[.string ⟨#[]⟩, .slice none 0 0, .string ⟨#[]⟩, .string ⟨#[]⟩, .string ⟨#[]⟩, .int .i64 0]
            have Hg7 : Hd (u.heap.size ≤ v17.heap.size) := ⟨bv17.size⟩
            replace N6 := N6.kept (Kept.of_below AL (fun _ => False)) id
            refine hK.out _ _ ⟨bv23, fun _ => trivial⟩ ?_
            clear hK K AL bv17
            generalize v17.alloc (.cells #[.string ⟨#[]⟩, .slice none 0 0, .string ⟨#[]⟩, .string ⟨#[]⟩, .string ⟨#[]⟩, .int .i64 0] 27) = v23 at *
            generalize v17.heap.size = g7 at *
            refine AnyG.ready (rs := [1]) (by kernel_rfl) (by simp) ?_
            refine AllG.cons rfl (fun K hK => ?_) AllG.nil
            go_simp
            refine (HCP.out v23 bv23).1.mono ?_
            rintro e v24 ⟨⟨vm, rfl, hvm⟩, bb⟩
            have bv24 : Below u.heap.size u v24 := bv23.trans (bb.mono bv23.size)
            replace N6 := N6.kept (Kept.of_below bb (fun _ => False)) id
            replace N7 := N7.kept (Kept.of_below bb (fun _ => False)) id
            obtain ⟨bL, nL, dL, bS, nS, dS, VV, rfl, LW0, SW0⟩ := cfw_shape hvm
            have LW := LW0.mono bv23.size
            have SW := SW0.mono bv23.size
            refine hK.out _ _ ⟨bv24, fun _ => trivial⟩ ?_
            clear hK K bb bv23 hvm LW0 SW0
            refine AnyG.ready (rs := [3]) (by kernel_rfl) (by simp) ?_
            refine AllG.cons rfl (fun K hK => ?_) AllG.nil
            go_simp
            refine (HCP.out v24 bv24).2.mono ?_
            rintro e v25 ⟨⟨aq, nq, cq, rfl, hoq⟩, bb⟩
            have bv25 : Below u.heap.size u v25 := bv24.trans (bb.mono bv24.size)
            replace LW := LW.grown bb
            replace SW := SW.grown bb
            replace N6 := N6.kept (Kept.of_below bb (fun _ => False)) id
            replace N7 := N7.kept (Kept.of_below bb (fun _ => False)) id
            have OQ := hoq.mono bv24.size
            refine hK.out _ _ ⟨bv25, fun _ => trivial⟩ ?_
            clear hK K bb bv24 hoq
            obtain ⟨FS, FB, F1, F2, F3, F4⟩ := all_fin (x0 := x0) (x2 := x2) (x3 := x3) (x4 := x4) (x5 := x5) Hg6.out Hg7.out bv25 N6 N7 LW SW OQ
            have z0 := N6.cellv (v := .int .i64 0) 0 rfl
            have z1 := N6.cellv (v := .int .i64 0) 1 rfl
            have z2 := N6.cellv (v := .int .i64 0) 2 rfl
            have z3 := N6.cellv (v := .int .i64 0) 3 rfl
            have z4 := N6.cellv (v := .slice none 0 0) 4 rfl
            have z5 := N6.cellv (v := .slice none 0 0) 5 rfl
            have t0 := N6.frozen 0
            have t1 := N6.frozen 1
            have t2 := N6.frozen 2
            have t3 := N6.frozen 3
            have t4 := N6.frozen 4
            have t5 := N6.frozen 5
            refine AnyG.ready (rs := [6]) (by kernel_rfl) (by simp) ?_
            refine AllG.cons rfl (fun K hK => ?_) AllG.nil
            go_simp
            refine hK.out _ _ ⟨FS.1, fun _ => trivial⟩ ?_
            clear hK K z0 z1 z2 z3 z4 z5 t0 t1 t2 t3 t4 t5
            generalize World.setCell _ _ _ = WS at *
            have z0 := FS.2.cellv (v := .string ⟨#[]⟩) 0 rfl
            have z1 := FS.2.cellv (v := .slice none 0 0) 1 rfl
            have z2 := FS.2.cellv (v := .string ⟨#[]⟩) 2 rfl
            have z3 := FS.2.cellv (v := .string ⟨#[]⟩) 3 rfl
            have z4 := FS.2.cellv (v := .string ⟨#[]⟩) 4 rfl
            have z5 := FS.2.cellv (v := .int .i64 0) 5 rfl
            have t0 := FS.2.frozen 0
            have t1 := FS.2.frozen 1
            have t2 := FS.2.frozen 2
            have t3 := FS.2.frozen 3
            have t4 := FS.2.frozen 4
            have t5 := FS.2.frozen 5
            refine AnyG.ready (rs := [7]) (by kernel_rfl) (by simp) ?_
            refine AllG.cons rfl (fun K hK => ?_) AllG.nil
            go_simp
            refine hK.out _ _ ⟨FB, fun _ => trivial⟩ ?_
            refine AnyG.done (by kernel_rfl) ?_ _
            go_wp2_with fail
            go_meet
            exact ⟨g6, g7, bL, nL, dL, bS, nS, dS, aq, nq, cq, rfl, rfl, FB, F1, F2, HRD.out _ _ _ _ _ _ _ F3.1 ⟨_, F3.2⟩, HRQ.out _ _ _ _ F4⟩
        · skip
          go_simp
          have AL := alloc_below w0 (.cells #[.string ⟨#[]⟩, .slice none 0 0, .string ⟨#[]⟩, .string ⟨#[]⟩, .string ⟨#[]⟩, .int .i64 0] 27)
          have bv26 : Below u.heap.size u (w0.alloc (.cells #[.string ⟨#[]⟩, .slice none 0 0, .string ⟨#[]⟩, .string ⟨#[]⟩, .string ⟨#[]⟩, .int .i64 0] 27)) := bw0.trans (AL.mono bw0.size)
          have N7 := Blk.new w0 27 #[.string ⟨#[]⟩, .slice none 0 0, .string ⟨#[]⟩, .string ⟨#[]⟩, .string ⟨#[]⟩, .int .i64 0]
          have Hg7 : Hd (u.heap.size ≤ w0.heap.size) := ⟨bw0.size⟩
          refine hK.out _ _ ⟨bv26, fun _ => trivial⟩ ?_
          clear hK K AL bw0
          generalize w0.alloc (.cells #[.string ⟨#[]⟩, .slice none 0 0, .string ⟨#[]⟩, .string ⟨#[]⟩, .string ⟨#[]⟩, .int .i64 0] 27) = v26 at *
          generalize w0.heap.size = g7 at *
          refine AnyG.ready (rs := [1, 4]) (by kernel_rfl) (by simp) ?_
          refine AllG.cons rfl (fun K hK => ?_) (AllG.cons rfl (fun K hK => ?_) AllG.nil)
          · skip
            go_simp
            refine (HCP.out v26 bv26).1.mono ?_
            rintro e v27 ⟨⟨vm, rfl, hvm⟩, bb⟩
            have bv27 : Below u.heap.size u v27 := bv26.trans (bb.mono bv26.size)
            replace N7 := N7.kept (Kept.of_below bb (fun _ => False)) id
            obtain ⟨bL, nL, dL, bS, nS, dS, VV, rfl, LW0, SW0⟩ := cfw_shape hvm
            have LW := LW0.mono bv26.size
            have SW := SW0.mono bv26.size
            refine hK.out _ _ ⟨bv27, fun _ => trivial⟩ ?_
            clear hK K bb bv26 hvm LW0 SW0
            refine AnyG.ready (rs := [3, 4]) (by kernel_rfl) (by simp) ?_
            refine AllG.cons rfl (fun K hK => ?_) (AllG.cons rfl (fun K hK => ?_) AllG.nil)
            · skip
              go_simp
              refine (HCP.out v27 bv27).2.mono ?_
              rintro e v28 ⟨⟨aq, nq, cq, rfl, hoq⟩, bb⟩
              have bv28 : Below u.heap.size u v28 := bv27.trans (bb.mono bv27.size)
              replace LW := LW.grown bb
              replace SW := SW.grown bb
              replace N7 := N7.kept (Kept.of_below bb (fun _ => False)) id
              have OQ := hoq.mono bv27.size
              refine hK.out _ _ ⟨bv28, fun _ => trivial⟩ ?_
              clear hK K bb bv27 hoq
              refine AnyG.ready (rs := [4]) (by kernel_rfl) (by simp) ?_
              refine AllG.cons rfl (fun K hK => ?_) AllG.nil
              go_simp
              have AL := alloc_below v28 (.cells #[.int .i64 0, .int .i64 0, .int .i64 0, .int .i64 0, .slice none 0 0, .slice none 0 0] 32)
              have bv29 : Below u.heap.size u (v28.alloc (.cells #[.int .i64 0, .int .i64 0, .int .i64 0, .int .i64 0, .slice none 0 0, .slice none 0 0] 32)) := bv28.trans (AL.mono bv28.size)
              have N6 := Blk.new v28 32 #[.int .i64 0, .int .i64 0, .int .i64 0, .int .i64 0, .slice none 0 0, .slice none 0 0]
              have Hg6 : Hd (u.heap.size ≤ v28.heap.size) := ⟨bv28.size⟩
              replace LW := LW.grown AL
              replace SW := SW.grown AL
              replace OQ := OQ.off (Kept.of_below AL (fun _ => False)) (Off.none _ _)
              replace N7 := N7.kept (Kept.of_below AL (fun _ => False)) id
              refine hK.out _ _ ⟨bv29, fun _ => trivial⟩ ?_
              clear hK K AL bv28
              generalize v28.alloc (.cells #[.int .i64 0, .int .i64 0, .int .i64 0, .int .i64 0, .slice none 0 0, .slice none 0 0] 32) = v29 at *
              generalize v28.heap.size = g6 at *
              obtain ⟨FS, FB, F1, F2, F3, F4⟩ := all_fin (x0 := x0) (x2 := x2) (x3 := x3) (x4 := x4) (x5 := x5) Hg6.out Hg7.out bv29 N6 N7 LW SW OQ
              have z0 := N6.cellv (v := .int .i64 0) 0 rfl
              have z1 := N6.cellv (v := .int .i64 0) 1 rfl
              have z2 := N6.cellv (v := .int .i64 0) 2 rfl
              have z3 := N6.cellv (v := .int .i64 0) 3 rfl
              have z4 := N6.cellv (v := .slice none 0 0) 4 rfl
              have z5 := N6.cellv (v := .slice none 0 0) 5 rfl
              have t0 := N6.frozen 0
              have t1 := N6.frozen 1
              have t2 := N6.frozen 2
              have t3 := N6.frozen 3
              have t4 := N6.frozen 4
              have t5 := N6.frozen 5
              refine AnyG.ready (rs := [6]) (by kernel_rfl) (by simp) ?_
              refine AllG.cons rfl (fun K hK => ?_) AllG.nil
              go_simp
              refine hK.out _ _ ⟨FS.1, fun _ => trivial⟩ ?_
              clear hK K z0 z1 z2 z3 z4 z5 t0 t1 t2 t3 t4 t5
              generalize World.setCell _ _ _ = WS at *
              have z0 := FS.2.cellv (v := .string ⟨#[]⟩) 0 rfl
              have z1 := FS.2.cellv (v := .slice none 0 0) 1 rfl
              have z2 := FS.2.cellv (v := .string ⟨#[]⟩) 2 rfl
              have z3 := FS.2.cellv (v := .string ⟨#[]⟩) 3 rfl
              have z4 := FS.2.cellv (v := .string ⟨#[]⟩) 4 rfl
              have z5 := FS.2.cellv (v := .int .i64 0) 5 rfl
              have t0 := FS.2.frozen 0
              have t1 := FS.2.frozen 1
              have t2 := FS.2.frozen 2
              have t3 := FS.2.frozen 3
              have t4 := FS.2.frozen 4
              have t5 := FS.2.frozen 5
              refine AnyG.ready (rs := [7]) (by kernel_rfl) (by simp) ?_
              refine AllG.cons rfl (fun K hK => ?_) AllG.nil
              go_simp
              refine hK.out _ _ ⟨FB, fun _ => trivial⟩ ?_
              refine AnyG.done (by kernel_rfl) ?_ _
              go_wp2_with fail
              go_meet
              exact ⟨g6, g7, bL, nL, dL, bS, nS, dS, aq, nq, cq, rfl, rfl, FB, F1, F2, HRD.out _ _ _ _ _ _ _ F3.1 ⟨_, F3.2⟩, HRQ.out _ _ _ _ F4⟩
            · skip
              go_simp
              have AL := alloc_below v27 (.cells #[.int .i64 0, .int .i64 0, .int .i64 0, .int .i64 0, .slice none 0 0, .slice none 0 0] 32)
              have bv30 : Below u.heap.size u (v27.alloc (.cells #[.int .i64 0, .int .i64 0, .int .i64 0, .int .i64 0, .slice none 0 0, .slice none 0 0] 32)) := bv27.trans (AL.mono bv27.size)
              have N6 := Blk.new v27 32 #[.int .i64 0, .int .i64 0, .int .i64 0, .int .i64 0, .slice none 0 0, .slice none 0 0]
              have Hg6 : Hd (u.heap.size ≤ v27.heap.size) := ⟨bv27.size⟩
              replace LW := LW.grown AL
              replace SW := SW.grown AL
              replace N7 := N7.kept (Kept.of_below AL (fun _ => False)) id
              refine hK.out _ _ ⟨bv30, fun _ => trivial⟩ ?_
              clear hK K AL bv27
              generalize v27.alloc (.cells #[.int .i64 0, .int .i64 0, .int .i64 0, .int .i64 0, .slice none 0 0, .slice none 0 0] 32) = v30 at *
              generalize v27.heap.size = g6 at *
              refine AnyG.ready (rs := [3]) (by kernel_rfl) (by simp) ?_
              refine AllG.cons rfl (fun K hK => ?_) AllG.nil
              go_simp
              refine (HCP.out v30 bv30).2.mono ?_
              rintro e v31 ⟨⟨aq, nq, cq, rfl, hoq⟩, bb⟩
              have bv31 : Below u.heap.size u v31 := bv30.trans (bb.mono bv30.size)
              replace LW := LW.grown bb
              replace SW := SW.grown bb
              replace N6 := N6.kept (Kept.of_below bb (fun _ => False)) id
              replace N7 := N7.kept (Kept.of_below bb (fun _ => False)) id
              have OQ := hoq.mono bv30.size
              refine hK.out _ _ ⟨bv31, fun _ => trivial⟩ ?_
              clear hK K bb bv30 hoq
              obtain ⟨FS, FB, F1, F2, F3, F4⟩ := all_fin (x0 := x0) (x2 := x2) (x3 := x3) (x4 := x4) (x5 := x5) Hg6.out Hg7.out bv31 N6 N7 LW SW OQ
              have z0 := N6.cellv (v := .int .i64 0) 0 rfl
              have z1 := N6.cellv (v := .int .i64 0) 1 rfl
              have z2 := N6.cellv (v := .int .i64 0) 2 rfl
              have z3 := N6.cellv (v := .int .i64 0) 3 rfl
              have z4 := N6.cellv (v := .slice none 0 0) 4 rfl
              have z5 := N6.cellv (v := .slice none 0 0) 5 rfl
              have t0 := N6.frozen 0
              have t1 := N6.frozen 1
              have t2 := N6.frozen 2
              have t3 := N6.frozen 3
              have t4 := N6.frozen 4
              have t5 := N6.frozen 5
              refine AnyG.ready (rs := [6]) (by kernel_rfl) (by simp) ?_
              refine AllG.cons rfl (fun K hK => ?_) AllG.nil
              go_simp
              refine hK.out _ _ ⟨FS.1, fun _ => trivial⟩ ?_
              clear hK K z0 z1 z2 z3 z4 z5 t0 t1 t2 t3 t4 t5
              generalize World.setCell _ _ _ = WS at *
              have z0 := FS.2.cellv (v := .string ⟨#[]⟩) 0 rfl
              have z1 := FS.2.cellv (v := .slice none 0 0) 1 rfl
              have z2 := FS.2.cellv (v := .string ⟨#[]⟩) 2 rfl
              have z3 := FS.2.cellv (v := .string ⟨#[]⟩) 3 rfl
              have z4 := FS.2.cellv (v := .string ⟨#[]⟩) 4 rfl
              have z5 := FS.2.cellv (v := .int .i64 0) 5 rfl
              have t0 := FS.2.frozen 0
              have t1 := FS.2.frozen 1
              have t2 := FS.2.frozen 2
              have t3 := FS.2.frozen 3
              have t4 := FS.2.frozen 4
              have t5 := FS.2.frozen 5
              refine AnyG.ready (rs := [7]) (by kernel_rfl) (by simp) ?_
              refine AllG.cons rfl (fun K hK => ?_) AllG.nil
              go_simp
              refine hK.out _ _ ⟨FB, fun _ => trivial⟩ ?_
              refine AnyG.done (by kernel_rfl) ?_ _
              go_wp2_with fail
              go_meet
              exact ⟨g6, g7, bL, nL, dL, bS, nS, dS, aq, nq, cq, rfl, rfl, FB, F1, F2, HRD.out _ _ _ _ _ _ _ F3.1 ⟨_, F3.2⟩, HRQ.out _ _ _ _ F4⟩
          · skip
            go_simp
            have AL := alloc_below v26 (.cells #[.int .i64 0, .int .i64 0, .int .i64 0, .int .i64 0, .slice none 0 0, .slice none 0 0] 32)
            have bv32 : Below u.heap.size u (v26.alloc (.cells #[.int .i64 0, .int .i64 0, .int .i64 0, .int .i64 0, .slice none 0 0, .slice none 0 0] 32)) := bv26.trans (AL.mono bv26.size)
            have N6 := Blk.new v26 32 #[.int .i64 0, .int .i64 0, .int .i64 0, .int .i64 0, .slice none 0 0, .slice none 0 0]
            have Hg6 : Hd (u.heap.size ≤ v26.heap.size) := ⟨bv26.size⟩
            replace N7 := N7.kept (Kept.of_below AL (fun _ => False)) id
            refine hK.out _ _ ⟨bv32, fun _ => trivial⟩ ?_
            clear hK K AL bv26
            generalize v26.alloc (.cells #[.int .i64 0, .int .i64 0, .int .i64 0, .int .i64 0, .slice none 0 0, .slice none 0 0] 32) = v32 at *
            generalize v26.heap.size = g6 at *
            refine AnyG.ready (rs := [1]) (by kernel_rfl) (by simp) ?_
            refine AllG.cons rfl (fun K hK => ?_) AllG.nil
            go_simp
            refine (HCP.out v32 bv32).1.mono ?_
            rintro e v33 ⟨⟨vm, rfl, hvm⟩, bb⟩
            have bv33 : Below u.heap.size u v33 := bv32.trans (bb.mono bv32.size)
            replace N6 := N6.kept (Kept.of_below bb (fun _ => False)) id
            replace N7 := N7.kept (Kept.of_below bb (fun _ => False)) id
            obtain ⟨bL, nL, dL, bS, nS, dS, VV, rfl, LW0, SW0⟩ := cfw_shape hvm
            have LW := LW0.mono bv32.size
            have SW := SW0.mono bv32.size
            refine hK.out _ _ ⟨bv33, fun _ => trivial⟩ ?_
            clear hK K bb bv32 hvm LW0 SW0
            refine AnyG.ready (rs := [3]) (by kernel_rfl) (by simp) ?_
            refine AllG.cons rfl (fun K hK => ?_) AllG.nil
            go_simp
            refine (HCP.out v33 bv33).2.mono ?_
            rintro e v34 ⟨⟨aq, nq, cq, rfl, hoq⟩, bb⟩
            have bv34 : Below u.heap.size u v34 := bv33.trans (bb.mono bv33.size)
            replace LW := LW.grown bb
            replace SW := SW.grown bb
            replace N6 := N6.kept (Kept.of_below bb (fun _ => False)) id
            replace N7 := N7.kept (Kept.of_below bb (fun _ => False)) id
            have OQ := hoq.mono bv33.size
            refine hK.out _ _ ⟨bv34, fun _ => trivial⟩ ?_
            clear hK K bb bv33 hoq
            obtain ⟨FS, FB, F1, F2, F3, F4⟩ := all_fin (x0 := x0) (x2 := x2) (x3 := x3) (x4 := x4) (x5 := x5) Hg6.out Hg7.out bv34 N6 N7 LW SW OQ
            have z0 := N6.cellv (v := .int .i64 0) 0 rfl
            have z1 := N6.cellv (v := .int .i64 0) 1 rfl
            have z2 := N6.cellv (v := .int .i64 0) 2 rfl
            have z3 := N6.cellv (v := .int .i64 0) 3 rfl
            have z4 := N6.cellv (v := .slice none 0 0) 4 rfl
            have z5 := N6.cellv (v := .slice none 0 0) 5 rfl
            have t0 := N6.frozen 0
            have t1 := N6.frozen 1
            have t2 := N6.frozen 2
            have t3 := N6.frozen 3
            have t4 := N6.frozen 4
            have t5 := N6.frozen 5
            refine AnyG.ready (rs := [6]) (by kernel_rfl) (by simp) ?_
            refine AllG.cons rfl (fun K hK => ?_) AllG.nil
            go_simp
            refine hK.out _ _ ⟨FS.1, fun _ => trivial⟩ ?_
            clear hK K z0 z1 z2 z3 z4 z5 t0 t1 t2 t3 t4 t5
            generalize World.setCell _ _ _ = WS at *
            have z0 := FS.2.cellv (v := .string ⟨#[]⟩) 0 rfl
            have z1 := FS.2.cellv (v := .slice none 0 0) 1 rfl
            have z2 := FS.2.cellv (v := .string ⟨#[]⟩) 2 rfl
            have z3 := FS.2.cellv (v := .string ⟨#[]⟩) 3 rfl
            have z4 := FS.2.cellv (v := .string ⟨#[]⟩) 4 rfl
            have z5 := FS.2.cellv (v := .int .i64 0) 5 rfl
            have t0 := FS.2.frozen 0
            have t1 := FS.2.frozen 1
            have t2 := FS.2.frozen 2
            have t3 := FS.2.frozen 3
            have t4 := FS.2.frozen 4
            have t5 := FS.2.frozen 5
            refine AnyG.ready (rs := [7]) (by kernel_rfl) (by simp) ?_
            refine AllG.cons rfl (fun K hK => ?_) AllG.nil
            go_simp
            refine hK.out _ _ ⟨FB, fun _ => trivial⟩ ?_
            refine AnyG.done (by kernel_rfl) ?_ _
            go_wp2_with fail
            go_meet
            exact ⟨g6, g7, bL, nL, dL, bS, nS, dS, aq, nq, cq, rfl, rfl, FB, F1, F2, HRD.out _ _ _ _ _ _ _ F3.1 ⟨_, F3.2⟩, HRQ.out _ _ _ _ F4⟩
      case rest =>
        clear HCP HRD HRQ b5'
        obtain ⟨g6, g7, bL, nL, dL, bS, nS, dS, aq, nq, cq, rfl, rfl, bc, N6, N7, CMr, QM⟩ := hcut.ex
        clear hcut
        have HR : Hd (∀ W, Below wc.heap.size wc W → (Blk W A1 24 #[.string y0, .string y1, .int .i64 y2, .int .i64 y3, .slice ar nr cr] ∧ Blk W A2 27 #[.string x0, .slice ag ng cg, .string x2, .string x3, .string x4, .int .i64 x5] ∧ Blk W gC 32 #[.int .i64 0, .int .i64 0, .int .i64 0, .int .i64 0, .slice none 0 0, .slice (some ⟨gR, 0, none⟩) 1 1] ∧ Blk W g6 32 #[.int .i64 0, .int .i64 0, .int .i64 0, .int .i64 0, .slice bL nL dL, .slice bS nS dS] ∧ Blk W g7 27 #[.string x0, .slice aq nq cq, .string x2, .string x3, .string x4, .int .i64 x5]) ∧ Below w.heap.size w W ∧ RlR W (.slice ar nr cr) rs ∧ LsR W (.slice ag ng cg) L ∧ (CfR W (.agg #[.int .i64 0, .int .i64 0, .int .i64 0, .int .i64 0, .slice bL nL dL, .slice bS nS dS]) ⟨0, 0, 0, 0, [], [⟨y0, y1, y2, y3, rs⟩]⟩ ∧ CfR W (.agg #[.int .i64 0, .int .i64 0, .int .i64 0, .int .i64 0, .slice none 0 0, .slice (some ⟨gR, 0, none⟩) 1 1]) ⟨0, 0, 0, 0, [], [⟨y0, y1, y2, y3, rs⟩]⟩) ∧ RqR W (.agg #[.string x0, .slice aq nq cq, .string x2, .string x3, .string x4, .int .i64 x5]) ⟨x0, L, x2, x3, x4, x5⟩ ∧ RqR W (.agg #[.string x0, .slice ag ng cg, .string x2, .string x3, .string x4, .int .i64 x5]) ⟨x0, L, x2, x3, x4, x5⟩ ∧ LsR W (.slice aq nq cq) L) := ⟨fun W b => by
          have bw : Below u.heap.size u W := bc.trans (b.mono bc.size)
          obtain ⟨P1, P2, P3, P4, P5, P6, P7, P8⟩ := HM.out W bw
          refine ⟨⟨P1, P2, P3, N6.kept (Kept.of_below b (fun _ => False)) id, N7.kept (Kept.of_below b (fun _ => False)) id⟩, P4, P5, P8, ⟨CMr.carry b, P7⟩, QM.carry b, P6, ?_⟩
          obtain ⟨a', n', c', e', hl⟩ := (QM.carry b).ex
          simp only [Value.agg.injEq] at e'
          have := (Array.mk.injEq _ _).mp e'
          simp at this
          obtain ⟨rfl, rfl, rfl⟩ := this
          exact hl⟩
        obtain ⟨rfl, b9, o9, a9, n9, c9, rfl, hb9, ⟨q0, q1, q2, q3, q4⟩, hr9⟩ := cf_first CMr
        have HC7 : Hd (∀ W, Below wc.heap.size wc W → (W.cell? ⟨b9, o9, none⟩ = some (.string y0) ∧ W.cell? ⟨b9, o9 + 1, none⟩ = some (.string y1) ∧ W.cell? ⟨b9, o9 + 2, none⟩ = some (.int .i64 y2) ∧ W.cell? ⟨b9, o9 + 3, none⟩ = some (.int .i64 y3) ∧ W.cell? ⟨b9, o9 + 4, none⟩ = some (.slice a9 n9 c9))
            ∧ (Calls Try.prog 12 #[.agg #[.string y0, .string y1, .int .i64 y2, .int .i64 y3, .slice a9 n9 c9], .agg #[.string x0, .slice aq nq cq, .string x2, .string x3, .string x4, .int .i64 x5]] W fun e w' => e = .returned (.bool (schB rs ⟨x0, L, x2, x3, x4, x5⟩)) ∧ Below W.heap.size W w')
            ∧ (Calls Try.prog 13 #[.agg #[.string y0, .string y1, .int .i64 y2, .int .i64 y3, .slice ar nr cr], .agg #[.string x0, .slice ag ng cg, .string x2, .string x3, .string x4, .int .i64 x5]] W fun e w' => e = .returned (.bool (schB rs ⟨x0, L, x2, x3, x4, x5⟩)) ∧ Below W.heap.size W w')) := ⟨fun W b => by
          obtain ⟨-, -, P5, P8, -, -, -, P9⟩ := HR.out W b
          exact ⟨⟨(b.cell (p := ⟨b9, o9, none⟩) hb9).trans q0, (b.cell (p := ⟨b9, o9 + 1, none⟩) hb9).trans q1, (b.cell (p := ⟨b9, o9 + 2, none⟩) hb9).trans q2, (b.cell (p := ⟨b9, o9 + 3, none⟩) hb9).trans q3, (b.cell (p := ⟨b9, o9 + 4, none⟩) hb9).trans q4⟩, schema_ok rs ⟨x0, L, x2, x3, x4, x5⟩ W (hr9.carry b) P9, rschema_ok rs ⟨x0, L, x2, x3, x4, x5⟩ W P5 P8⟩⟩
        clear N6 N7 CMr QM bc HM q0 q1 q2 q3 q4 hr9 hb9
        generalize schB rs ⟨x0, L, x2, x3, x4, x5⟩ = sb at *
        go_upto_region 7 with fail
        have bw0 : Below wc.heap.size wc wc.drew := ⟨rfl, rfl, rfl, Nat.le_refl _, fun _ _ => rfl⟩
        refine AnyG.start (T := fun W => Below wc.heap.size wc W) (U := fun _ => True) (j0 := 100) (by kernel_rfl) ?_
        generalize wc.drew = w0 at *
        refine .tq 0 27 bw0 ?_; simp only [tkA, tkB, tkC]
        refine .tq 1 28 bw0 ?_ (hy := fun w hSw => by have s5 := (HR.out w hSw).1.2.2.2.1.cellv (v := .slice (some ⟨b9, o9, none⟩) 1 dS) 5 rfl; go_simp; rfl); simp only [tkA, tkB, tkC]
        refine .tq 2 29 bw0 ?_; simp only [tkA, tkB, tkC]
        refine .tq 3 30 bw0 ?_ (hy := fun w hSw => by obtain ⟨⟨s0, s1, s2, s3, s4⟩, -⟩ := HC7.out w hSw; go_simp; rfl); simp only [tkA, tkB, tkC]
        refine .tq 4 31 bw0 ?_ (hy := fun w hSw => by have M := (HR.out w hSw).1.2.2.2.2; have s0 := M.cellv (v := .string x0) 0 rfl; have s1 := M.cellv (v := .slice aq nq cq) 1 rfl; have s2 := M.cellv (v := .string x2) 2 rfl; have s3 := M.cellv (v := .string x3) 3 rfl; have s4 := M.cellv (v := .string x4) 4 rfl; have s5 := M.cellv (v := .int .i64 x5) 5 rfl; go_simp; rfl); simp only [tkA, tkB, tkC]
        refine .tq 6 33 bw0 ?_ (hy := fun w hSw => by have M := (HR.out w hSw).1.1; have s0 := M.cellv (v := .string y0) 0 rfl; have s1 := M.cellv (v := .string y1) 1 rfl; have s2 := M.cellv (v := .int .i64 y2) 2 rfl; have s3 := M.cellv (v := .int .i64 y3) 3 rfl; have s4 := M.cellv (v := .slice ar nr cr) 4 rfl; go_simp; rfl); simp only [tkA, tkB, tkC]
        refine .tq 7 34 bw0 ?_ (hy := fun w hSw => by have M := (HR.out w hSw).1.2.1; have s0 := M.cellv (v := .string x0) 0 rfl; have s1 := M.cellv (v := .slice ag ng cg) 1 rfl; have s2 := M.cellv (v := .string x2) 2 rfl; have s3 := M.cellv (v := .string x3) 3 rfl; have s4 := M.cellv (v := .string x4) 4 rfl; have s5 := M.cellv (v := .int .i64 x5) 5 rfl; go_simp; rfl); simp only [tkA, tkB, tkC]
        refine AnyG.ready (rs := [5]) (by kernel_rfl) (by simp) ?_
        refine AllG.cons rfl (fun K hK => ?_) AllG.nil
        go_simp
        refine (HC7.out w0 bw0).2.1.mono ?_
        rintro e wk1 ⟨rfl, b1⟩
        have bk1 : Below wc.heap.size wc wk1 := bw0.trans (b1.mono bw0.size)
        refine hK.out _ _ ⟨bk1, fun _ => trivial⟩ ?_
        clear hK K b1 bw0
        refine AnyG.ready (rs := [8]) (by kernel_rfl) (by simp) ?_
        refine AllG.cons rfl (fun K hK => ?_) AllG.nil
        go_simp
        refine (HC7.out wk1 bk1).2.2.mono ?_
        rintro e wk2 ⟨rfl, b2⟩
        have bk2 : Below wc.heap.size wc wk2 := bk1.trans (b2.mono bk1.size)
        refine hK.out _ _ ⟨bk2, fun _ => trivial⟩ ?_
        clear hK K b2 bk1 HC7
        refine .tq (v := .bool false) 9 36 bk2 ?_ (hy := fun w hSw => by cases sb <;> go_simp); simp only [tkA, tkB, tkC]
        refine AnyG.done (by kernel_rfl) ?_ _
        go_wp2_with fail
        go_loopw [8] (fun i wr => ∃ k : Nat, k ≤ nr ∧ i = .int .i64 k ∧ Hd (Below wc.heap.size wc wr)) (fun i _ => nr - (intOf i).toNat)
        case atStart => exact ⟨0, Nat.zero_le _, rfl, ⟨bk2⟩⟩
        case round =>
          obtain ⟨k, hk, rfl, HBW⟩ := hrel
          clear bk2
          obtain ⟨⟨N1, N2, N3, N4, N5⟩, -⟩ := HR.out wr HBW.out
          have e4 := N1.cellv (v := .slice ar nr cr) 4 rfl
          by_cases hlt : k < nr
          · have hkR : k < rs.length := by rw [← HN.out]; exact hlt
            obtain ⟨a', c', e', -, hR'⟩ := (HR.out wc (Below.refl _ _)).2.2.1.at
            obtain ⟨b, off, ea, hbl, a0, n0, c0, a1, n1, c1, a2, n2, c2, a3, n3, c3, a4, n4, c4, ⟨k0, k1, k2, k3, k4⟩, hru⟩ := hR' k hkR
            obtain rfl : ar = a' := by injection e'
            subst ea
            have HI : Hd (k < nr) := ⟨hlt⟩
            have k0 := (HBW.out.cell (p := ⟨b, off + k * 5, none⟩) hbl).trans k0
            have k1 := (HBW.out.cell (p := ⟨b, off + k * 5 + 1, none⟩) hbl).trans k1
            have k2 := (HBW.out.cell (p := ⟨b, off + k * 5 + 2, none⟩) hbl).trans k2
            have k3 := (HBW.out.cell (p := ⟨b, off + k * 5 + 3, none⟩) hbl).trans k3
            have k4 := (HBW.out.cell (p := ⟨b, off + k * 5 + 4, none⟩) hbl).trans k4
            have AL := alloc_below wr (.cells #[.slice a0 n0 c0, .slice a1 n1 c1, .slice a2 n2 c2, .slice a3 n3 c3, .slice a4 n4 c4] 39)
            have N9 := Blk.new wr 39 #[.slice a0 n0 c0, .slice a1 n1 c1, .slice a2 n2 c2, .slice a3 n3 c3, .slice a4 n4 c4]
            have bw9 : Below wc.heap.size wc (wr.alloc (.cells #[.slice a0 n0 c0, .slice a1 n1 c1, .slice a2 n2 c2, .slice a3 n3 c3, .slice a4 n4 c4] 39)) := HBW.out.trans (AL.mono HBW.out.size)
            have HC : Hd (∀ W, Below (wr.alloc (.cells #[.slice a0 n0 c0, .slice a1 n1 c1, .slice a2 n2 c2, .slice a3 n3 c3, .slice a4 n4 c4] 39)).heap.size (wr.alloc (.cells #[.slice a0 n0 c0, .slice a1 n1 c1, .slice a2 n2 c2, .slice a3 n3 c3, .slice a4 n4 c4] 39)) W → (Blk W wr.heap.size 39 #[.slice a0 n0 c0, .slice a1 n1 c1, .slice a2 n2 c2, .slice a3 n3 c3, .slice a4 n4 c4] ∧ Blk W A2 27 #[.string x0, .slice ag ng cg, .string x2, .string x3, .string x4, .int .i64 x5]) ∧ Below wc.heap.size wc W
                ∧ (Calls Try.prog 14 #[.agg #[.slice a0 n0 c0, .slice a1 n1 c1, .slice a2 n2 c2, .slice a3 n3 c3, .slice a4 n4 c4], .agg #[.string x0, .slice ag ng cg, .string x2, .string x3, .string x4, .int .i64 x5]] W fun e w' => e = .returned (.bool (ruleB rs[k] ⟨x0, L, x2, x3, x4, x5⟩)) ∧ Below W.heap.size W w')
                ∧ (Calls Try.prog 15 #[.agg #[.slice a0 n0 c0, .slice a1 n1 c1, .slice a2 n2 c2, .slice a3 n3 c3, .slice a4 n4 c4], .agg #[.string x0, .slice ag ng cg, .string x2, .string x3, .string x4, .int .i64 x5]] W fun e w' => e = .returned (.bool (ruleB rs[k] ⟨x0, L, x2, x3, x4, x5⟩)) ∧ Below W.heap.size W w')
                ∧ (Calls Try.prog 16 #[.slice a2 n2 c2, .string x0] W fun e w' => e = .returned (.bool (hasB rs[k].verbs x0)) ∧ w' = W)
                ∧ (Calls Try.prog 17 #[.slice a2 n2 c2, .string x0] W fun e w' => e = .returned (.bool (hasB rs[k].verbs x0)) ∧ w' = W)) := ⟨fun W b => by
              have bw : Below wc.heap.size wc W := bw9.trans (b.mono bw9.size)
              obtain ⟨⟨-, P2, -⟩, -, -, P8, -⟩ := HR.out W bw
              have hr := hru.carry bw
              exact ⟨⟨N9.kept (Kept.of_below b (fun _ => False)) id, P2⟩, bw, rule_ok rs[k] ⟨x0, L, x2, x3, x4, x5⟩ W hr P8, rrule_ok rs[k] ⟨x0, L, x2, x3, x4, x5⟩ W hr P8, has_ok _ _ _ W hr.2.2.1, rhas_ok _ _ _ W hr.2.2.1⟩⟩
            generalize ruleB rs[k] ⟨x0, L, x2, x3, x4, x5⟩ = rb at *
            generalize hasB rs[k].verbs x0 = hb at *
            clear hR' e' hbl hru AL N9 bw9 N1 N2 N3 N4 N5 hkR
            go_upto_region 13 with fail
            clear k0 k1 k2 k3 k4 e4
            generalize wr.heap.size = g9 at *
            generalize wr.alloc _ = W9 at *
            have bw0 : Below W9.heap.size W9 W9.drew := ⟨rfl, rfl, rfl, Nat.le_refl _, fun _ _ => rfl⟩
            refine AnyG.start (T := fun W => Below W9.heap.size W9 W) (U := fun _ => True) (j0 := 100) (by kernel_rfl) ?_
            generalize W9.drew = w0 at *
            refine .tq 0 49 bw0 ?_ (hy := fun w hSw => by have M := (HC.out w hSw).1.1; have s0 := M.cellv (v := .slice a0 n0 c0) 0 rfl; have s1 := M.cellv (v := .slice a1 n1 c1) 1 rfl; have s2 := M.cellv (v := .slice a2 n2 c2) 2 rfl; have s3 := M.cellv (v := .slice a3 n3 c3) 3 rfl; have s4 := M.cellv (v := .slice a4 n4 c4) 4 rfl; go_simp; rfl); simp only [tkA, tkB, tkC]
            refine .tq 1 50 bw0 ?_ (hy := fun w hSw => by have M := (HC.out w hSw).1.2; have s0 := M.cellv (v := .string x0) 0 rfl; have s1 := M.cellv (v := .slice ag ng cg) 1 rfl; have s2 := M.cellv (v := .string x2) 2 rfl; have s3 := M.cellv (v := .string x3) 3 rfl; have s4 := M.cellv (v := .string x4) 4 rfl; have s5 := M.cellv (v := .int .i64 x5) 5 rfl; go_simp; rfl); simp only [tkA, tkB, tkC]
            refine .tq 3 52 bw0 ?_ (hy := fun w hSw => by have M := (HC.out w hSw).1.1; have s0 := M.cellv (v := .slice a0 n0 c0) 0 rfl; have s1 := M.cellv (v := .slice a1 n1 c1) 1 rfl; have s2 := M.cellv (v := .slice a2 n2 c2) 2 rfl; have s3 := M.cellv (v := .slice a3 n3 c3) 3 rfl; have s4 := M.cellv (v := .slice a4 n4 c4) 4 rfl; go_simp; rfl); simp only [tkA, tkB, tkC]
            refine .tq 4 53 bw0 ?_ (hy := fun w hSw => by have M := (HC.out w hSw).1.2; have s0 := M.cellv (v := .string x0) 0 rfl; have s1 := M.cellv (v := .slice ag ng cg) 1 rfl; have s2 := M.cellv (v := .string x2) 2 rfl; have s3 := M.cellv (v := .string x3) 3 rfl; have s4 := M.cellv (v := .string x4) 4 rfl; have s5 := M.cellv (v := .int .i64 x5) 5 rfl; go_simp; rfl); simp only [tkA, tkB, tkC]
            refine AnyG.ready (rs := [2]) (by kernel_rfl) (by simp) ?_
            refine AllG.cons rfl (fun K hK => ?_) AllG.nil
            go_simp
            refine (HC.out w0 bw0).2.2.1.mono ?_
            rintro e wk1 ⟨rfl, b1⟩
            have bk1 : Below W9.heap.size W9 wk1 := bw0.trans (b1.mono bw0.size)
            refine hK.out _ _ ⟨bk1, fun _ => trivial⟩ ?_
            clear hK K b1 bw0
            refine AnyG.ready (rs := [5]) (by kernel_rfl) (by simp) ?_
            refine AllG.cons rfl (fun K hK => ?_) AllG.nil
            go_simp
            refine (HC.out wk1 bk1).2.2.2.1.mono ?_
            rintro e wk2 ⟨rfl, b2⟩
            have bk2 : Below W9.heap.size W9 wk2 := bk1.trans (b2.mono bk1.size)
            refine hK.out _ _ ⟨bk2, fun _ => trivial⟩ ?_
            clear hK K b2 bk1
            refine .tq (v := .bool false) 6 55 bk2 ?_ (hy := fun w hSw => by cases rb <;> go_simp); simp only [tkA, tkB, tkC]
            refine .tq 7 56 bk2 ?_; simp only [tkA, tkB, tkC]
            refine .tq 8 57 bk2 ?_; simp only [tkA, tkB, tkC]
            refine .tq 9 58 bk2 ?_ (hy := fun w hSw => by have s2 := (HC.out w hSw).1.1.cellv (v := .slice a2 n2 c2) 2 rfl; go_simp; rfl); simp only [tkA, tkB, tkC]
            refine .tq 10 59 bk2 ?_; simp only [tkA, tkB, tkC]
            refine .tq 11 60 bk2 ?_ (hy := fun w hSw => by have s0 := (HC.out w hSw).1.2.cellv (v := .string x0) 0 rfl; go_simp; rfl); simp only [tkA, tkB, tkC]
            refine .tq 13 62 bk2 ?_; simp only [tkA, tkB, tkC]
            refine .tq 14 63 bk2 ?_ (hy := fun w hSw => by have s2 := (HC.out w hSw).1.1.cellv (v := .slice a2 n2 c2) 2 rfl; go_simp; rfl); simp only [tkA, tkB, tkC]
            refine .tq 15 64 bk2 ?_; simp only [tkA, tkB, tkC]
            refine .tq 16 65 bk2 ?_ (hy := fun w hSw => by have s0 := (HC.out w hSw).1.2.cellv (v := .string x0) 0 rfl; go_simp; rfl); simp only [tkA, tkB, tkC]
            refine AnyG.ready (rs := [12]) (by kernel_rfl) (by simp) ?_
            refine AllG.cons rfl (fun K hK => ?_) AllG.nil
            go_simp
            refine (HC.out wk2 bk2).2.2.2.2.1.mono ?_
            rintro e wk3 ⟨rfl, hw3⟩
            obtain rfl := hw3.symm
            refine hK.out _ _ ⟨bk2, fun _ => trivial⟩ ?_
            clear hK K hw3
            refine AnyG.ready (rs := [17]) (by kernel_rfl) (by simp) ?_
            refine AllG.cons rfl (fun K hK => ?_) AllG.nil
            go_simp
            refine (HC.out wk2 bk2).2.2.2.2.2.mono ?_
            rintro e wk4 ⟨rfl, hw4⟩
            obtain rfl := hw4.symm
            refine hK.out _ _ ⟨bk2, fun _ => trivial⟩ ?_
            clear hK K hw4
            refine .tq (v := .bool false) 18 67 bk2 ?_ (hy := fun w hSw => by cases hb <;> go_simp); simp only [tkA, tkB, tkC]
            refine .tq 19 68 bk2 ?_; simp only [tkA, tkB, tkC]
            refine AnyG.done (by kernel_rfl) ?_ _
            have HBE : Hd (Below wc.heap.size wc wk2) := ⟨(HC.out wk2 bk2).2.1⟩
            clear HC bk2
            go_wp2_with fail
            go_roundw
            case rel => exact ⟨k + 1, HI.out, by go_num, HBE⟩
            case measure => have := HI.out; simp [intOf]; omega
          · obtain rfl : k = nr := by omega
            have SMm := same_cfr (HR.out wr HBW.out).2.2.2.2.1.1 (HR.out wr HBW.out).2.2.2.2.1.2
            have f0 := N4.cellv (v := .int .i64 0) 0 rfl
            have f1 := N4.cellv (v := .int .i64 0) 1 rfl
            have f2 := N4.cellv (v := .int .i64 0) 2 rfl
            have f3 := N4.cellv (v := .int .i64 0) 3 rfl
            have f4 := N4.cellv (v := .slice bL nL dL) 4 rfl
            have f5 := N4.cellv (v := .slice (some ⟨b9, o9, none⟩) 1 dS) 5 rfl
            have g0 := N3.cellv (v := .int .i64 0) 0 rfl
            have g1 := N3.cellv (v := .int .i64 0) 1 rfl
            have g2 := N3.cellv (v := .int .i64 0) 2 rfl
            have g3 := N3.cellv (v := .int .i64 0) 3 rfl
            have g4 := N3.cellv (v := .slice none 0 0) 4 rfl
            have g5 := N3.cellv (v := .slice (some ⟨gR, 0, none⟩) 1 1) 5 rfl
            clear N1 N2 N3 N4 N5
            go_wp2_with fail
            refine SMm.mono ?_
            rintro e w7 ⟨rfl, b7⟩
            have bk7 : Below wc.heap.size wc w7 := HBW.out.trans (b7.mono HBW.out.size)
            obtain ⟨⟨-, M2, -, -, M5⟩, -, -, -, -, P6, P7, -⟩ := HR.out w7 bk7
            have SMq := sameQ_ok _ _ _ w7 P6 P7
            have HB7 : Hd (Below wc.heap.size wc w7) := ⟨bk7⟩
            clear SMm b7 P6 P7 bk7 f0 f1 f2 f3 f4 f5 g0 g1 g2 g3 g4 g5 e4
            have f0 := M5.cellv (v := .string x0) 0 rfl
            have f1 := M5.cellv (v := .slice aq nq cq) 1 rfl
            have f2 := M5.cellv (v := .string x2) 2 rfl
            have f3 := M5.cellv (v := .string x3) 3 rfl
            have f4 := M5.cellv (v := .string x4) 4 rfl
            have f5 := M5.cellv (v := .int .i64 x5) 5 rfl
            have g0 := M2.cellv (v := .string x0) 0 rfl
            have g1 := M2.cellv (v := .slice ag ng cg) 1 rfl
            have g2 := M2.cellv (v := .string x2) 2 rfl
            have g3 := M2.cellv (v := .string x3) 3 rfl
            have g4 := M2.cellv (v := .string x4) 4 rfl
            have g5 := M2.cellv (v := .int .i64 x5) 5 rfl
            clear M2 M5
            go_wp2_with fail
            refine SMq.mono ?_
            rintro e w8 ⟨rfl, b8⟩
            have HB8 : Hd (Below w.heap.size w w8) := ⟨(HR.out w8 (HB7.out.trans (b8.mono HB7.out.size))).2.1⟩
            clear SMq b8 f0 f1 f2 f3 f4 f5 g0 g1 g2 g3 g4 g5 HR
            go_wp2_with fail
            go_ret
            exact ⟨rfl, HB8.out⟩
end Go.Proofs.Ytendblngcbknpaa
