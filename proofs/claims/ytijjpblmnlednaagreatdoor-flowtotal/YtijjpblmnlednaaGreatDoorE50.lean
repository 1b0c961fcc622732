/-
  Requests: 'Small' of the reference.
  The walk of 'FlowTotal'.
-/
import Derived.Test.YtijjpblmnlednaaGreatDoorE44
import Derived.Test.YtijjpblmnlednaaGreatDoorE12
import Derived.BigQuiet
import Derived.Test.YtijjpblmnlednaaGreatDoorE48
import Derived.Test.YtijjpblmnlednaaGreatDoorE49
namespace Go.Proofs.YtijjpblmnlednaaGreatDoor
open Go.RowKit
/-- A request that is read. -/
structure RqR (w : World) (v : Value) (q : Rq) : Prop where
  ex : ∃ a n c, v = .agg (#[.string q.user, .slice a n c, .string q.verb, .string q.resource, .string q.space, .int .i64 q.objects]) ∧ LsR w (.slice a n c) q.groups
  sz : q.user.size ≤ 9223372036854775807 ∧ q.verb.size ≤ 9223372036854775807 ∧ q.resource.size ≤ 9223372036854775807 ∧ q.space.size ≤ 9223372036854775807
theorem RqR.carry {w w' : World} {v : Value} {q : Rq} (h : RqR w v q) (b : Below w.heap.size w w') : RqR w' v q := by
  obtain ⟨a, n, c, e, hl⟩ := h.ex
  exact ⟨⟨a, n, c, e, hl.carry b⟩, h.sz⟩
/-- A yes, which says that there are few groups and that texts are short, or a no. -/
structure IsQ (q : Rq) (e : Ending) : Prop where
  ex : ∃ b, e = .returned (.bool b) ∧ (b = true → q.groups.length ≤ 40 ∧ q.user.size ≤ 1000 ∧ q.space.size ≤ 1000)

set_option maxHeartbeats 1000000 in
theorem smallQ_ok (v : Value) (q : Rq) (w : World) (h : RqR w v q) : Calls Tryz.prog 6 #[v] w fun e w' => IsQ q e ∧ Below w.heap.size w w' := by
  obtain ⟨ag, ng, cg, rfl, hq⟩ := h.ex
  obtain ⟨z0, z2, z3, z4⟩ := h.sz
  clear h
  obtain ⟨x0, L, x2, x3, x4, x5⟩ := q
  simp only at *
  obtain ⟨a', c', e', hr', hc', hl', hx'⟩ := hq
  have hng : ng = L.length := by injection e'
  have hag : ag = a' := by injection e'
  subst hag
  have B : Below w.heap.size w (w.alloc (.cells #[.string x0, .slice ag ng cg, .string x2, .string x3, .string x4, .int .i64 x5] 28)) := alloc_below _ _
  have HR : Hd (RowL (w.alloc (.cells #[.string x0, .slice ag ng cg, .string x2, .string x3, .string x4, .int .i64 x5] 28)) ag L) := ⟨hr'.carry B⟩
  have HX : Hd (∀ k, k < ng → (gt L k).size ≤ 9223372036854775807) := ⟨fun k hk => by rw [gt_eq (by omega)]; exact hx' _ (List.getElem_mem _)⟩
  have HN : Hd (ng = L.length) := ⟨hng⟩
  have HB : Hd (Below w.heap.size w (w.alloc (.cells #[.string x0, .slice ag ng cg, .string x2, .string x3, .string x4, .int .i64 x5] 28))) := ⟨B⟩
  have N0 := Blk.new w 28 #[.string x0, .slice ag ng cg, .string x2, .string x3, .string x4, .int .i64 x5]
  rw [← hng] at hl'
  clear e' hr' hc' hx' hng B
  by_cases g0 : 1000 < x0.size
  · go_enter Tryz.func6, Tryz.ntmps6
    go_wp2_with fail
    go_ret
    exact ⟨⟨⟨_, rfl, fun h => nomatch h⟩⟩, HB.out⟩
  by_cases g2 : 1000 < x2.size
  · go_enter Tryz.func6, Tryz.ntmps6
    go_wp2_with fail
    go_ret
    exact ⟨⟨⟨_, rfl, fun h => nomatch h⟩⟩, HB.out⟩
  by_cases g3 : 1000 < x3.size
  · go_enter Tryz.func6, Tryz.ntmps6
    go_wp2_with fail
    go_ret
    exact ⟨⟨⟨_, rfl, fun h => nomatch h⟩⟩, HB.out⟩
  by_cases g4 : 1000 < x4.size
  · go_enter Tryz.func6, Tryz.ntmps6
    go_wp2_with fail
    go_ret
    exact ⟨⟨⟨_, rfl, fun h => nomatch h⟩⟩, HB.out⟩
  by_cases g5 : 40 < ng
  · go_enter Tryz.func6, Tryz.ntmps6
    go_wp2_with fail
    go_ret
    exact ⟨⟨⟨_, rfl, fun h => nomatch h⟩⟩, HB.out⟩
  have H5 : Hd (ng ≤ 40 ∧ x0.size ≤ 1000 ∧ x4.size ≤ 1000) := ⟨by omega⟩
  have d1 := N0.cellv (v := .slice ag ng cg) 1 rfl
  clear N0
  go_enter Tryz.func6, Tryz.ntmps6
  go_wp2_with fail
  clear g0 g2 g3 g4 g5
  generalize w.alloc _ = w2 at *
  go_loopw [3] (fun i wr => ∃ k : Nat, k ≤ ng ∧ i = .int .i64 k ∧ wr = w2) (fun i _ => ng - (intOf i).toNat)
  case atStart => exact ⟨0, Nat.zero_le _, rfl, rfl⟩
  case round =>
    obtain ⟨k, hk, rfl, rfl⟩ := hrel
    by_cases hlt : k < ng
    · obtain ⟨b, off, rfl, hb, hc⟩ := HR.out (by have := HN.out; omega)
      have ck := hc k (by have := HN.out; omega)
      have sk := HX.out k hlt
      have HI : Hd (k < ng) := ⟨hlt⟩
      clear hc
      generalize gt L k = y at ck sk
      by_cases g : 1000 < y.size
      · go_wp2_with fail
        go_ret
        exact ⟨⟨⟨_, rfl, fun h => nomatch h⟩⟩, HB.out⟩
      · go_wp2_with fail
        go_roundw
        case rel => exact ⟨k + 1, HI.out, by go_num, (by first | rfl | trivial)⟩
        case measure => have := HI.out; simp [intOf]; omega
    · obtain rfl : k = ng := by omega
      go_wp2_with fail
      go_ret
      exact ⟨⟨⟨_, rfl, fun _ => by have := HN.out; have := H5.out; simp only; omega⟩⟩, HB.out⟩
theorem cf_ss {W : World} {x0 x1 x2 x3 : Int} {vL : Value} {a : Option Addr} {n c : Nat} {T : Cf} (h : CfR W (.agg #[.int .i64 x0, .int .i64 x1, .int .i64 x2, .int .i64 x3, vL, .slice a n c]) T) : SsR W (.slice a n c) T.schemas := by
  obtain ⟨aL, cL, aS, cS, V, e, h1, h2, h3, h4, h5, h6⟩ := h.ex
  have e2 : (.slice a n c : Value) = .slice aS T.schemas.length cS := by simp at e; simp [e]
  rw [e2]
  exact ⟨⟨_, _, V, rfl, h.sz.2, h4, h5, h6⟩, h.nm.2⟩
theorem cf_lv {W : World} {x0 x1 x2 x3 : Int} {vS : Value} {a : Option Addr} {n c : Nat} {T : Cf} (h : CfR W (.agg #[.int .i64 x0, .int .i64 x1, .int .i64 x2, .int .i64 x3, .slice a n c, vS]) T) : LvR W a T.levels ∧ n = T.levels.length := by
  obtain ⟨aL, cL, aS, cS, V, e, h1, h2, h3, h4, h5, h6⟩ := h.ex
  have e2 : a = aL ∧ n = T.levels.length := by simp at e; exact ⟨e.2.2.2.2.1.1, e.2.2.2.2.1.2.1⟩
  rw [e2.1]
  exact ⟨h3, e2.2⟩
theorem rq_groups {w : World} {ag : Option Addr} {ng cg : Nat} {q : Rq} (hq : RqR w (.agg #[.string q.user, .slice ag ng cg, .string q.verb, .string q.resource, .string q.space, .int .i64 q.objects]) q) : LsR w (.slice ag ng cg) q.groups := by
  obtain ⟨ag', ng', cg', eq, hg⟩ := hq.ex
  have : (.slice ag ng cg : Value) = .slice ag' ng' cg' := by simp at eq; simp [eq]
  rw [this]; exact hg
theorem bnd_more {C : Cf} (h : Bnd 80 C) : Bnd 900 C := ⟨Nat.le_trans h.lv (by decide), Nat.le_trans h.sc (by decide), fun s hs => ⟨Nat.le_trans (h.rl s hs).1 (by decide), fun r hr => by
  obtain ⟨c0, c1, c2, c3, c4⟩ := (h.rl s hs).2 r hr
  exact ⟨by omega, by omega, by omega, by omega, by omega⟩⟩⟩
set_option maxRecDepth 40000 in
set_option maxHeartbeats 8000000 in
theorem total_law {ag : Option Addr} {ng cg : Nat} (a0 : Array Value) (C : Cf) (q : Rq) (w : World) (hC : CfR w (.agg a0) C) (hq : RqR w (.agg #[.string q.user, .slice ag ng cg, .string q.verb, .string q.resource, .string q.space, .int .i64 q.objects]) q) (hT : Tab w) :
    Calls Tryz.prog 3 #[.agg a0, .agg #[.string q.user, .slice ag ng cg, .string q.verb, .string q.resource, .string q.space, .int .i64 q.objects]] w fun e w' => e = .returned (.bool true) ∧ Below w.heap.size w w' := by
  obtain ⟨aL, cL, aS, cS, V, ea, -⟩ := hC.ex
  obtain rfl : a0 = _ := by injection ea
  clear ea V
  obtain ⟨nL, hnL⟩ : ∃ nL, nL = C.levels.length := ⟨_, rfl⟩
  obtain ⟨nS, hnS⟩ : ∃ nS, nS = C.schemas.length := ⟨_, rfl⟩
  rw [← hnL, ← hnS] at hC ⊢
  clear hnL hnS
  obtain ⟨w1, hw1⟩ : ∃ w1, w1 = (w.alloc (.cells #[.int .i64 C.total, .int .i64 C.period, .int .i64 C.perSeat, .int .i64 C.most, .slice aL nL cL, .slice aS nS cS] 25)).alloc (.cells #[.string q.user, .slice ag ng cg, .string q.verb, .string q.resource, .string q.space, .int .i64 q.objects] 28) := ⟨_, rfl⟩
  have BX := boxes w 25 28 #[.int .i64 C.total, .int .i64 C.period, .int .i64 C.perSeat, .int .i64 C.most, .slice aL nL cL, .slice aS nS cS] #[.string q.user, .slice ag ng cg, .string q.verb, .string q.resource, .string q.space, .int .i64 q.objects]
  rw [← hw1] at BX
  obtain ⟨B1, N0, N1⟩ := BX
  have HW : Hd (∀ W, Below w1.heap.size w1 W → (Blk W w.heap.size 25 #[.int .i64 C.total, .int .i64 C.period, .int .i64 C.perSeat, .int .i64 C.most, .slice aL nL cL, .slice aS nS cS] ∧ Blk W (w.heap.size + 1) 28 #[.string q.user, .slice ag ng cg, .string q.verb, .string q.resource, .string q.space, .int .i64 q.objects]) ∧ Below w.heap.size w W ∧ CfR W (.agg #[.int .i64 C.total, .int .i64 C.period, .int .i64 C.perSeat, .int .i64 C.most, .slice aL nL cL, .slice aS nS cS]) C ∧ RqR W (.agg #[.string q.user, .slice ag ng cg, .string q.verb, .string q.resource, .string q.space, .int .i64 q.objects]) q ∧ Tab W) := ⟨fun W b => by
    have b' := B1.trans (b.mono B1.size)
    exact ⟨⟨N0.kept (Kept.of_below b (fun _ => False)) id, N1.kept (Kept.of_below b (fun _ => False)) id⟩, b', hC.carry b', hq.carry b', hT.stays b'⟩⟩
  clear N0 N1 B1 hC hq hT
  have HM : Hd (∀ W, Below w1.heap.size w1 W → Calls Tryz.prog 5 #[.agg #[.int .i64 C.total, .int .i64 C.period, .int .i64 C.perSeat, .int .i64 C.most, .slice aL nL cL, .slice aS nS cS]] W fun e w' => IsC C e ∧ Below W.heap.size W w') := ⟨fun W b => small_nm _ _ W (HW.out W b).2.2.1⟩
  have HQ : Hd (∀ W, Below w1.heap.size w1 W → Calls Tryz.prog 6 #[.agg #[.string q.user, .slice ag ng cg, .string q.verb, .string q.resource, .string q.space, .int .i64 q.objects]] W fun e w' => IsQ q e ∧ Below W.heap.size W w') := ⟨fun W b => smallQ_ok _ q W (HW.out W b).2.2.2.1⟩
  have HX : Hd (∀ W, Below w1.heap.size w1 W → (Blk W w.heap.size 25 #[.int .i64 C.total, .int .i64 C.period, .int .i64 C.perSeat, .int .i64 C.most, .slice aL nL cL, .slice aS nS cS] ∧ Blk W (w.heap.size + 1) 28 #[.string q.user, .slice ag ng cg, .string q.verb, .string q.resource, .string q.space, .int .i64 q.objects]) ∧ Below w.heap.size w W) := ⟨fun W b => ⟨(HW.out W b).1, (HW.out W b).2.1⟩⟩
  have HK : Hd (Bnd 80 C → ∀ W, Below w1.heap.size w1 W → Calls Tryz.prog 7 #[.agg #[.int .i64 C.total, .int .i64 C.period, .int .i64 C.perSeat, .int .i64 C.most, .slice aL nL cL, .slice aS nS cS]] W fun e w' => Mk W C e w') := ⟨fun hb W b => make_ok _ C W (HW.out W b).2.2.1 (bnd_more hb) (HW.out W b).2.2.2.2⟩
  have HR : Hd (∀ W, Below w1.heap.size w1 W → RqR W (.agg #[.string q.user, .slice ag ng cg, .string q.verb, .string q.resource, .string q.space, .int .i64 q.objects]) q) := ⟨fun W b => (HW.out W b).2.2.2.1⟩
  clear HW
  have I := awake_ok w1
  go_enter Tryz.func3, Tryz.ntmps3
  go_upto_region 1 with fail
  rw [← hw1]
  clear hw1
  generalize w.heap.size + 1 = g' at *
  obtain ⟨g, hg⟩ : ∃ g, g = w.heap.size := ⟨_, rfl⟩
  rw [← hg]
  have HG : Hd (g = w.heap.size) := ⟨hg⟩
  rw [← hg] at HX
  clear hg
  go_upto_region 3 with (go_at_call 4; refine I.mono ?_; rintro e w2 ⟨rfl, b2⟩)
  clear I
  have B2 : Hd (Below w1.heap.size w1 w2) := ⟨b2⟩
  have M := HM.out w2 b2
  obtain ⟨⟨NC, -⟩, -⟩ := HX.out w2 b2
  have c0 := NC.cellv (v := .int .i64 C.total) 0 rfl
  have c1 := NC.cellv (v := .int .i64 C.period) 1 rfl
  have c2 := NC.cellv (v := .int .i64 C.perSeat) 2 rfl
  have c3 := NC.cellv (v := .int .i64 C.most) 3 rfl
  have c4 := NC.cellv (v := .slice aL nL cL) 4 rfl
  have c5 := NC.cellv (v := .slice aS nS cS) 5 rfl
  clear b2 NC
  go_wp2_with fail
  refine M.mono ?_
  rintro e w3 ⟨hb3, b3⟩
  obtain ⟨bs, rfl, hbs⟩ := hb3.ex
  clear hb3 M c0 c1 c2 c3 c4 c5
  have B3 : Hd (Below w1.heap.size w1 w3) := ⟨B2.out.trans (b3.mono B2.out.size)⟩
  clear b3 B2
  cases bs with
  | false =>
    clear hbs
    have Y := HX.out w3 B3.out
    go_wp2_with fail
    go_ret
    exact ⟨rfl, by rw [← HG.out]; exact Y.2⟩
  | true =>
  have HBN : Hd (Bnd 80 C) := ⟨(hbs rfl).1⟩
  clear hbs
  have M := HQ.out w3 B3.out
  obtain ⟨⟨-, NQ⟩, -⟩ := HX.out w3 B3.out
  have d0 := NQ.cellv (v := .string q.user) 0 rfl
  have d1 := NQ.cellv (v := .slice ag ng cg) 1 rfl
  have d2 := NQ.cellv (v := .string q.verb) 2 rfl
  have d3 := NQ.cellv (v := .string q.resource) 3 rfl
  have d4 := NQ.cellv (v := .string q.space) 4 rfl
  have d5 := NQ.cellv (v := .int .i64 q.objects) 5 rfl
  clear NQ
  go_wp2_with fail
  refine M.mono ?_
  rintro e w4 ⟨hb4, b4⟩
  obtain ⟨bs, rfl, -⟩ := hb4.ex
  clear hb4 M d0 d1 d2 d3 d4 d5
  have B4 : Hd (Below w1.heap.size w1 w4) := ⟨B3.out.trans (b4.mono B3.out.size)⟩
  clear b4 B3 HM HQ
  cases bs with
  | false =>
    have Y := HX.out w4 B4.out
    go_wp2_with fail
    go_ret
    exact ⟨rfl, by rw [← HG.out]; exact Y.2⟩
  | true =>
  have M := HK.out HBN.out w4 B4.out
  obtain ⟨⟨NC, -⟩, -⟩ := HX.out w4 B4.out
  have c0 := NC.cellv (v := .int .i64 C.total) 0 rfl
  have c1 := NC.cellv (v := .int .i64 C.period) 1 rfl
  have c2 := NC.cellv (v := .int .i64 C.perSeat) 2 rfl
  have c3 := NC.cellv (v := .int .i64 C.most) 3 rfl
  have c4 := NC.cellv (v := .slice aL nL cL) 4 rfl
  have c5 := NC.cellv (v := .slice aS nS cS) 5 rfl
  clear NC
  have HP : Hd ((mkE C).1 = 0 → Passes (mkC C)) := ⟨fun h => by
    have e : mkC C = tblC C := by unfold mkC; rw [if_pos h]
    rw [e]
    exact (mkE_ok h).1.tbl⟩
  go_upto_region 5 with fail
  go_wp2_with fail
  refine M.mono ?_
  rintro e w5 ⟨⟨vL, vS, rfl, hCT⟩, b5⟩
  clear M c0 c1 c2 c3 c4 c5 HK HBN
  have B5 : Hd (Below w1.heap.size w1 w5) := ⟨B4.out.trans (b5.mono B4.out.size)⟩
  clear b5 B4
  obtain ⟨bL, dL, bS, dS, V, ea, -⟩ := hCT.ex
  obtain ⟨mL, rfl⟩ : ∃ mL, vL = .slice bL mL dL := ⟨_, by simp at ea; exact ea.1⟩
  obtain ⟨mS, rfl⟩ : ∃ mS, vS = .slice bS mS dS := ⟨_, by simp at ea; exact ea.2⟩
  clear ea V
  obtain ⟨er, her, hee⟩ := errV_two (mkE C)
  rw [← her]
  clear her
  generalize mkC C = T at *
  generalize mkD C = D at *
  go_upto_region 6 with fail
  have N5 := Blk.new w5 34 #[.int .i64 T.total, .int .i64 T.period, .int .i64 T.perSeat, .int .i64 T.most, .slice bL mL dL, .slice bS mS dS, .int .u64 (D : Nat)]
  have B6 : Below w5.heap.size w5 (w5.alloc (.cells #[.int .i64 T.total, .int .i64 T.period, .int .i64 T.perSeat, .int .i64 T.most, .slice bL mL dL, .slice bS mS dS, .int .u64 (D : Nat)] 34)) := alloc_below _ _
  have HC6 := hCT.carry B6
  have B6' : Below w1.heap.size w1 (w5.alloc (.cells #[.int .i64 T.total, .int .i64 T.period, .int .i64 T.perSeat, .int .i64 T.most, .slice bL mL dL, .slice bS mS dS, .int .u64 (D : Nat)] 34)) := B5.out.trans (B6.mono B5.out.size)
  generalize w5.alloc _ = w6 at *
  generalize w5.heap.size = g5 at *
  clear hCT B6 B5
  rcases hee with ⟨rfl, hz⟩ | ⟨sa, sb, rfl, hz⟩
  case inr =>
    have Y := HX.out w6 B6'
    clear hz N5 HC6 B6' HP
    go_wp2_with fail
    go_ret
    exact ⟨rfl, by rw [← HG.out]; exact Y.2⟩
  have PT := HP.out hz
  clear HP hz
  have HY : Hd (∀ W, Below w6.heap.size w6 W → Blk W g' 28 #[.string q.user, .slice ag ng cg, .string q.verb, .string q.resource, .string q.space, .int .i64 q.objects] ∧ Blk W g5 34 #[.int .i64 T.total, .int .i64 T.period, .int .i64 T.perSeat, .int .i64 T.most, .slice bL mL dL, .slice bS mS dS, .int .u64 (D : Nat)] ∧ CfR W (.agg #[.int .i64 T.total, .int .i64 T.period, .int .i64 T.perSeat, .int .i64 T.most, .slice bL mL dL, .slice bS mS dS]) T ∧ Below w1.heap.size w1 W) := ⟨fun W b => by
    have b' := B6'.trans (b.mono B6'.size)
    exact ⟨(HX.out W b').1.2, N5.kept (Kept.of_below b (fun _ => False)) id, HC6.carry b, b'⟩⟩
  obtain ⟨s, hfs, hfl⟩ := PT.total q
  have h16 := PT.f.nl
  clear N5 HC6 B6' PT
  obtain ⟨ca, cb, cc, cf, hcl⟩ : ∃ a b c f, clOf (findS T.schemas q) q = #[.string a, .string b, .string c, .int .u64 (f : Nat)] ∧ b = s.level := by
    rw [hfs]
    exact ⟨_, _, _, _, rfl, rfl⟩
  obtain ⟨hcl, hcb⟩ := hcl
  have M := classify_ok (z0 := T.total) (z1 := T.period) (z2 := T.perSeat) (z3 := T.most) (aL := bL) (nL := mL) (cL := dL) (d := D) T.schemas q w6 (cf_ss (HY.out w6 (Below.refl _ _)).2.2.1) (rq_groups (HR.out w6 (HY.out w6 (Below.refl _ _)).2.2.2)) (HR.out w6 (HY.out w6 (Below.refl _ _)).2.2.2).sz.1 (HR.out w6 (HY.out w6 (Below.refl _ _)).2.2.2).sz.2.2.2
  rw [hcl, show erOf (findS T.schemas q) = 0 by rw [hfs]; rfl] at M
  have HLV : Hd (∀ W, Below w6.heap.size w6 W → ∃ l0 l1 l2 l3 l4 l5 l6 l7 l8 l9, Calls Tryz.prog 9 #[.agg #[.int .i64 T.total, .int .i64 T.period, .int .i64 T.perSeat, .int .i64 T.most, .slice bL mL dL, .slice bS mS dS, .int .u64 (D : Nat)], .string cb] W fun e w' => e = .returned (.tuple #[.agg #[.string l0, .int .i64 l1, .int .i64 l2, .int .i64 l3, .int .i64 l4, .int .i64 l5, .int .i64 l6, .int .i64 l7, .int .i64 l8, .int .i64 l9], .bool true]) ∧ Below W.heap.size W w') := ⟨fun W b => by
    obtain ⟨-, -, h3, -⟩ := HY.out W b
    obtain ⟨hl, hm⟩ := cf_lv h3
    have h := tlevel_ok T.total T.period T.perSeat T.most D bL dL T.levels (.slice bS mS dS) cb W hl (by omega) ⟨_, _, _, rfl⟩
    rw [hcb, hfl] at h
    rw [hm, hcb]
    generalize lvD (findL T.levels s.level) = l at h
    exact ⟨_, _, _, _, _, _, _, _, _, _, h⟩⟩
  clear hfs hfl h16 hcl hcb
  obtain ⟨NQ, NT, -⟩ := HY.out w6 (Below.refl _ _)
  have d0 := NQ.cellv (v := .string q.user) 0 rfl
  have d1 := NQ.cellv (v := .slice ag ng cg) 1 rfl
  have d2 := NQ.cellv (v := .string q.verb) 2 rfl
  have d3 := NQ.cellv (v := .string q.resource) 3 rfl
  have d4 := NQ.cellv (v := .string q.space) 4 rfl
  have d5 := NQ.cellv (v := .int .i64 q.objects) 5 rfl
  have t0 := NT.cellv (v := .int .i64 T.total) 0 rfl
  have t1 := NT.cellv (v := .int .i64 T.period) 1 rfl
  have t2 := NT.cellv (v := .int .i64 T.perSeat) 2 rfl
  have t3 := NT.cellv (v := .int .i64 T.most) 3 rfl
  have t4 := NT.cellv (v := .slice bL mL dL) 4 rfl
  have t5 := NT.cellv (v := .slice bS mS dS) 5 rfl
  have t6 := NT.cellv (v := .int .u64 (D : Nat)) 6 rfl
  clear NQ NT
  go_upto_region 8 with fail
  go_wp2_with fail
  refine M.mono ?_
  rintro e w7 ⟨rfl, b7⟩
  clear M d0 d1 d2 d3 d4 d5 t0 t1 t2 t3 t4 t5 t6
  go_upto_region 9 with fail
  have N8 := Blk.new w7 40 #[.string ca, .string cb, .string cc, .int .u64 (cf : Nat)]
  have B8 : Below w6.heap.size w6 (w7.alloc (.cells #[.string ca, .string cb, .string cc, .int .u64 (cf : Nat)] 40)) := b7.trans ((alloc_below _ _).mono b7.size)
  generalize w7.alloc _ = w8 at *
  generalize w7.heap.size = g7 at *
  have p1 := N8.cellv (v := .string cb) 1 rfl
  obtain ⟨-, NT, -⟩ := HY.out w8 B8
  have t0 := NT.cellv (v := .int .i64 T.total) 0 rfl
  have t1 := NT.cellv (v := .int .i64 T.period) 1 rfl
  have t2 := NT.cellv (v := .int .i64 T.perSeat) 2 rfl
  have t3 := NT.cellv (v := .int .i64 T.most) 3 rfl
  have t4 := NT.cellv (v := .slice bL mL dL) 4 rfl
  have t5 := NT.cellv (v := .slice bS mS dS) 5 rfl
  have t6 := NT.cellv (v := .int .u64 (D : Nat)) 6 rfl
  obtain ⟨l0, l1, l2, l3, l4, l5, l6, l7, l8, l9, M⟩ := HLV.out w8 B8
  have HB8 : Hd (Below w6.heap.size w6 w8) := ⟨B8⟩
  clear NT N8 b7 B8 HLV
  go_wp2_with fail
  refine M.mono ?_
  rintro e w9 ⟨rfl, b9⟩
  have B9 : Below w6.heap.size w6 w9 := HB8.out.trans (b9.mono HB8.out.size)
  clear M p1 t0 t1 t2 t3 t4 t5 t6 b9 HB8
  have B10 : Below w6.heap.size w6 (w9.alloc (.cells #[.string l0, .int .i64 l1, .int .i64 l2, .int .i64 l3, .int .i64 l4, .int .i64 l5, .int .i64 l6, .int .i64 l7, .int .i64 l8, .int .i64 l9] 45)) := B9.trans ((alloc_below _ _).mono B9.size)
  have Y : Hd (Below g w (w9.alloc (.cells #[.string l0, .int .i64 l1, .int .i64 l2, .int .i64 l3, .int .i64 l4, .int .i64 l5, .int .i64 l6, .int .i64 l7, .int .i64 l8, .int .i64 l9] 45))) := ⟨(HX.out _ (HY.out _ B10).2.2.2).2⟩
  clear B9 B10 HY HX HR
  go_wp2_with fail
  go_ret
  exact ⟨rfl, by rw [← HG.out]; exact Y.out⟩
end Go.Proofs.YtijjpblmnlednaaGreatDoor
