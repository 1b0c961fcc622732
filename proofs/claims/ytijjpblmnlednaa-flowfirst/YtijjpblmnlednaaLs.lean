/-
  The walk of 'FlowKeys'. Condition: schemas and requests lie in memory.
-/
import Derived.Test.YtijjpblmnlednaaAw
import Derived.Test.YtijjpblmnlednaaSq
import Derived.Test.YtijjpblmnlednaaSmC
import Derived.Test.YtijjpblmnlednaaRowS
namespace Go.Proofs.Ytijjpblmnlednaa
open Go.RowKit

/-- What a class is made of. -/
theorem clOf_fl (o : Option Sc) (q : Rq) : ∃ a b c f, clOf o q = #[.string a, .string b, .string c, .int .u64 (f : Nat)] ∧ (erOf o = 0 → f = Fn.flow a c) ∧ (erOf o = 0 ∨ erOf o = 6) := by
  cases o with
  | none => exact ⟨_, _, _, _, rfl, fun h => by simp [erOf] at h, .inr rfl⟩
  | some s => exact ⟨_, _, _, _, rfl, fun _ => rfl, .inl rfl⟩
theorem rq_groups {w : World} {ag : Option Addr} {ng cg : Nat} {q : Rq} (hq : RqR w (.agg #[.string q.user, .slice ag ng cg, .string q.verb, .string q.resource, .string q.space, .int .i64 q.objects]) q) : LsR w (.slice ag ng cg) q.groups := by
  obtain ⟨ag', ng', cg', eq, hg⟩ := hq.ex
  have : (.slice ag ng cg : Value) = .slice ag' ng' cg' := by simp at eq; simp [eq]
  rw [this]; exact hg
set_option maxRecDepth 20000 in
set_option maxHeartbeats 4000000 in
theorem keys_law {ag ah aS : Option Addr} {ng cg nh ch nS cS : Nat} (S : List Sc) (p q : Rq) (w : World) (hv : SsR w (.slice aS nS cS) S) (hc : nS ≤ cS) (hp : RqR w (.agg #[.string p.user, .slice ah nh ch, .string p.verb, .string p.resource, .string p.space, .int .i64 p.objects]) p) (hq : RqR w (.agg #[.string q.user, .slice ag ng cg, .string q.verb, .string q.resource, .string q.space, .int .i64 q.objects]) q) :
    Calls Try.prog 5 #[.slice aS nS cS, .agg #[.string p.user, .slice ah nh ch, .string p.verb, .string p.resource, .string p.space, .int .i64 p.objects], .agg #[.string q.user, .slice ag ng cg, .string q.verb, .string q.resource, .string q.space, .int .i64 q.objects]] w fun e w' => e = .returned (.bool true) ∧ Below w.heap.size w w' := by
  obtain ⟨w1, hw1⟩ : ∃ w1, w1 = (w.alloc (.cells #[.string p.user, .slice ah nh ch, .string p.verb, .string p.resource, .string p.space, .int .i64 p.objects] 25)).alloc (.cells #[.string q.user, .slice ag ng cg, .string q.verb, .string q.resource, .string q.space, .int .i64 q.objects] 25) := ⟨_, rfl⟩
  have BX := boxes w 25 25 #[.string p.user, .slice ah nh ch, .string p.verb, .string p.resource, .string p.space, .int .i64 p.objects] #[.string q.user, .slice ag ng cg, .string q.verb, .string q.resource, .string q.space, .int .i64 q.objects]
  rw [← hw1] at BX
  obtain ⟨B1, N0, N1⟩ := BX
  have HW : Hd (∀ W, Below w1.heap.size w1 W → (Blk W w.heap.size 25 #[.string p.user, .slice ah nh ch, .string p.verb, .string p.resource, .string p.space, .int .i64 p.objects] ∧ Blk W (w.heap.size + 1) 25 #[.string q.user, .slice ag ng cg, .string q.verb, .string q.resource, .string q.space, .int .i64 q.objects]) ∧ Below w.heap.size w W ∧ SsR W (.slice aS nS cS) S ∧ RqR W (.agg #[.string p.user, .slice ah nh ch, .string p.verb, .string p.resource, .string p.space, .int .i64 p.objects]) p ∧ RqR W (.agg #[.string q.user, .slice ag ng cg, .string q.verb, .string q.resource, .string q.space, .int .i64 q.objects]) q) := ⟨fun W b => by
    have b' := B1.trans (b.mono B1.size)
    exact ⟨⟨N0.kept (Kept.of_below b (fun _ => False)) id, N1.kept (Kept.of_below b (fun _ => False)) id⟩, b', hv.carry b', hp.carry b', hq.carry b'⟩⟩
  clear N0 N1 B1 hv hp hq
  obtain ⟨ca, cb, cc, cf, hcl, hcf, hce⟩ := clOf_fl (findS S p) p
  obtain ⟨da, db, dc, df, hdl, hdf, hde⟩ := clOf_fl (findS S q) q
  have HC : Hd (∀ W, Below w1.heap.size w1 W → Calls Try.prog 10 #[.agg #[.int .i64 0, .int .i64 0, .int .i64 0, .int .i64 0, .slice none 0 0, .slice aS nS cS, .int .u64 0], .agg #[.string p.user, .slice ah nh ch, .string p.verb, .string p.resource, .string p.space, .int .i64 p.objects]] W fun e w' => e = .returned (.tuple #[.agg #[.string ca, .string cb, .string cc, .int .u64 (cf : Nat)], .int .i64 (erOf (findS S p))]) ∧ Below W.heap.size W w') := ⟨fun W b => by
    obtain ⟨-, -, h3, h4, -⟩ := HW.out W b
    have := classify_ok (z0 := 0) (z1 := 0) (z2 := 0) (z3 := 0) (aL := none) (nL := 0) (cL := 0) (d := 0) S p W h3 (rq_groups h4) h4.sz.1 h4.sz.2.2.2
    rw [hcl] at this
    exact this⟩
  have HD : Hd (∀ W, Below w1.heap.size w1 W → Calls Try.prog 10 #[.agg #[.int .i64 0, .int .i64 0, .int .i64 0, .int .i64 0, .slice none 0 0, .slice aS nS cS, .int .u64 0], .agg #[.string q.user, .slice ag ng cg, .string q.verb, .string q.resource, .string q.space, .int .i64 q.objects]] W fun e w' => e = .returned (.tuple #[.agg #[.string da, .string db, .string dc, .int .u64 (df : Nat)], .int .i64 (erOf (findS S q))]) ∧ Below W.heap.size W w') := ⟨fun W b => by
    obtain ⟨-, -, h3, -, h4⟩ := HW.out W b
    have := classify_ok (z0 := 0) (z1 := 0) (z2 := 0) (z3 := 0) (aL := none) (nL := 0) (cL := 0) (d := 0) S q W h3 (rq_groups h4) h4.sz.1 h4.sz.2.2.2
    rw [hdl] at this
    exact this⟩
  have HM : Hd (∀ W, Below w1.heap.size w1 W → Calls Try.prog 8 #[.agg #[.int .i64 0, .int .i64 0, .int .i64 0, .int .i64 0, .slice none 0 0, .slice aS nS cS]] W fun e w' => IsC ⟨0, 0, 0, 0, [], S⟩ e ∧ Below W.heap.size W w') := ⟨fun W b => small_nm _ _ W (cf_of (HW.out W b).2.2.1 hc)⟩
  have HP : Hd (∀ W, Below w1.heap.size w1 W → Calls Try.prog 9 #[.agg #[.string p.user, .slice ah nh ch, .string p.verb, .string p.resource, .string p.space, .int .i64 p.objects]] W fun e w' => IsQ p e ∧ Below W.heap.size W w') := ⟨fun W b => smallQ_ok _ p W (HW.out W b).2.2.2.1⟩
  have HQ : Hd (∀ W, Below w1.heap.size w1 W → Calls Try.prog 9 #[.agg #[.string q.user, .slice ag ng cg, .string q.verb, .string q.resource, .string q.space, .int .i64 q.objects]] W fun e w' => IsQ q e ∧ Below W.heap.size W w') := ⟨fun W b => smallQ_ok _ q W (HW.out W b).2.2.2.2⟩
  have HX : Hd (∀ W, Below w1.heap.size w1 W → (Blk W w.heap.size 25 #[.string p.user, .slice ah nh ch, .string p.verb, .string p.resource, .string p.space, .int .i64 p.objects] ∧ Blk W (w.heap.size + 1) 25 #[.string q.user, .slice ag ng cg, .string q.verb, .string q.resource, .string q.space, .int .i64 q.objects]) ∧ Below w.heap.size w W) := ⟨fun W b => ⟨(HW.out W b).1, (HW.out W b).2.1⟩⟩
  clear HW hcl hdl
  have HCF : Hd ((erOf (findS S p) = 0 → cf = Fn.flow ca cc) ∧ (erOf (findS S q) = 0 → df = Fn.flow da dc)) := ⟨hcf, hdf⟩
  clear hcf hdf
  generalize erOf (findS S p) = er at *
  generalize erOf (findS S q) = eq at *
  have I := awake_ok w1
  go_enter Try.func5, Try.ntmps5
  go_upto_region 1 with fail
  rw [← hw1]
  clear hw1
  generalize w.heap.size + 1 = g' at *
  obtain ⟨g, hg⟩ : ∃ g, g = w.heap.size := ⟨_, rfl⟩
  rw [← hg]
  have HG : Hd (g = w.heap.size) := ⟨hg⟩
  rw [← hg] at HX
  clear hg
  go_upto_region 3 with (go_at_call 7; refine I.mono ?_; rintro e w2 ⟨rfl, b2⟩)
  clear I
  have B2 : Hd (Below w1.heap.size w1 w2) := ⟨b2⟩
  have M := HM.out w2 b2
  clear b2
  go_wp2_with fail
  refine M.mono ?_
  rintro e w3 ⟨hb3, b3⟩
  obtain ⟨bs, rfl, -⟩ := hb3.ex
  clear hb3 M
  have B3 : Hd (Below w1.heap.size w1 w3) := ⟨B2.out.trans (b3.mono B2.out.size)⟩
  clear b3 B2
  cases bs with
  | false =>
    have Y := HX.out w3 B3.out
    go_wp2_with fail
    go_ret
    exact ⟨rfl, by rw [← HG.out]; exact Y.2⟩
  | true =>
    obtain ⟨⟨NP, NQ⟩, -⟩ := HX.out w3 B3.out
    have d0 := NP.cellv (v := .string p.user) 0 rfl
    have d1 := NP.cellv (v := .slice ah nh ch) 1 rfl
    have d2 := NP.cellv (v := .string p.verb) 2 rfl
    have d3 := NP.cellv (v := .string p.resource) 3 rfl
    have d4 := NP.cellv (v := .string p.space) 4 rfl
    have d5 := NP.cellv (v := .int .i64 p.objects) 5 rfl
    clear NP NQ
    have M := HP.out w3 B3.out
    go_wp2_with fail
    refine M.mono ?_
    rintro e w4 ⟨hb4, b4⟩
    obtain ⟨bs, rfl, -⟩ := hb4.ex
    clear hb4 M d0 d1 d2 d3 d4 d5
    have B4 : Hd (Below w1.heap.size w1 w4) := ⟨B3.out.trans (b4.mono B3.out.size)⟩
    clear b4 B3
    cases bs with
    | false =>
      have Y := HX.out w4 B4.out
      go_wp2_with fail
      go_ret
      exact ⟨rfl, by rw [← HG.out]; exact Y.2⟩
    | true =>
      obtain ⟨⟨NP, NQ⟩, -⟩ := HX.out w4 B4.out
      have d0 := NQ.cellv (v := .string q.user) 0 rfl
      have d1 := NQ.cellv (v := .slice ag ng cg) 1 rfl
      have d2 := NQ.cellv (v := .string q.verb) 2 rfl
      have d3 := NQ.cellv (v := .string q.resource) 3 rfl
      have d4 := NQ.cellv (v := .string q.space) 4 rfl
      have d5 := NQ.cellv (v := .int .i64 q.objects) 5 rfl
      clear NP NQ
      have M := HQ.out w4 B4.out
      go_wp2_with fail
      refine M.mono ?_
      rintro e w5 ⟨hb5, b5⟩
      obtain ⟨bs, rfl, -⟩ := hb5.ex
      clear hb5 M d0 d1 d2 d3 d4 d5
      have B5 : Hd (Below w1.heap.size w1 w5) := ⟨B4.out.trans (b5.mono B4.out.size)⟩
      clear b5 B4
      cases bs with
      | false =>
        have Y := HX.out w5 B5.out
        go_wp2_with fail
        go_ret
        exact ⟨rfl, by rw [← HG.out]; exact Y.2⟩
      | true =>
        go_upto_region 6 with fail
        have N7 := Blk.new w5 39 #[.int .i64 0, .int .i64 0, .int .i64 0, .int .i64 0, .slice none 0 0, .slice aS nS cS, .int .u64 0]
        have B7 : Below w1.heap.size w1 (w5.alloc (.cells #[.int .i64 0, .int .i64 0, .int .i64 0, .int .i64 0, .slice none 0 0, .slice aS nS cS, .int .u64 0] 39)) := B5.out.trans ((alloc_below _ _).mono B5.out.size)
        generalize w5.alloc _ = w7 at *
        generalize w5.heap.size = g7 at *
        have HY : Hd (∀ W, Below w7.heap.size w7 W → (Blk W g 25 #[.string p.user, .slice ah nh ch, .string p.verb, .string p.resource, .string p.space, .int .i64 p.objects] ∧ Blk W g' 25 #[.string q.user, .slice ag ng cg, .string q.verb, .string q.resource, .string q.space, .int .i64 q.objects]) ∧ Blk W g7 39 #[.int .i64 0, .int .i64 0, .int .i64 0, .int .i64 0, .slice none 0 0, .slice aS nS cS, .int .u64 0] ∧ Below w1.heap.size w1 W) := ⟨fun W b => by
          have b' := B7.trans (b.mono B7.size)
          exact ⟨(HX.out W b').1, N7.kept (Kept.of_below b (fun _ => False)) id, b'⟩⟩
        clear N7 B7 B5
        obtain ⟨⟨NP, NQ⟩, NT, -⟩ := HY.out w7 (Below.refl _ _)
        have d0 := NP.cellv (v := .string p.user) 0 rfl
        have d1 := NP.cellv (v := .slice ah nh ch) 1 rfl
        have d2 := NP.cellv (v := .string p.verb) 2 rfl
        have d3 := NP.cellv (v := .string p.resource) 3 rfl
        have d4 := NP.cellv (v := .string p.space) 4 rfl
        have d5 := NP.cellv (v := .int .i64 p.objects) 5 rfl
        have t0 := NT.cellv (v := .int .i64 0) 0 rfl
        have t1 := NT.cellv (v := .int .i64 0) 1 rfl
        have t2 := NT.cellv (v := .int .i64 0) 2 rfl
        have t3 := NT.cellv (v := .int .i64 0) 3 rfl
        have t4 := NT.cellv (v := .slice none 0 0) 4 rfl
        have t5 := NT.cellv (v := .slice aS nS cS) 5 rfl
        have t6 := NT.cellv (v := .int .u64 0) 6 rfl
        clear NP NQ NT
        have M := HC.out w7 (HY.out w7 (Below.refl _ _)).2.2
        go_wp2_with fail
        refine M.mono ?_
        rintro e w8 ⟨rfl, b8⟩
        clear M d0 d1 d2 d3 d4 d5 t0 t1 t2 t3 t4 t5 t6
        go_upto_region 7 with fail
        have N9 := Blk.new w8 34 #[.string ca, .string cb, .string cc, .int .u64 (cf : Nat)]
        have B9 : Below w7.heap.size w7 (w8.alloc (.cells #[.string ca, .string cb, .string cc, .int .u64 (cf : Nat)] 34)) := b8.trans ((alloc_below _ _).mono b8.size)
        generalize w8.alloc _ = w9 at *
        generalize w8.heap.size = g9 at *
        clear b8
        obtain ⟨⟨NP, NQ⟩, NT, -⟩ := HY.out w9 B9
        have d0 := NQ.cellv (v := .string q.user) 0 rfl
        have d1 := NQ.cellv (v := .slice ag ng cg) 1 rfl
        have d2 := NQ.cellv (v := .string q.verb) 2 rfl
        have d3 := NQ.cellv (v := .string q.resource) 3 rfl
        have d4 := NQ.cellv (v := .string q.space) 4 rfl
        have d5 := NQ.cellv (v := .int .i64 q.objects) 5 rfl
        have t0 := NT.cellv (v := .int .i64 0) 0 rfl
        have t1 := NT.cellv (v := .int .i64 0) 1 rfl
        have t2 := NT.cellv (v := .int .i64 0) 2 rfl
        have t3 := NT.cellv (v := .int .i64 0) 3 rfl
        have t4 := NT.cellv (v := .slice none 0 0) 4 rfl
        have t5 := NT.cellv (v := .slice aS nS cS) 5 rfl
        have t6 := NT.cellv (v := .int .u64 0) 6 rfl
        clear NP NQ NT
        have M := HD.out w9 (HY.out w9 B9).2.2
        have HZ : Hd (∀ W, Below w9.heap.size w9 W → Blk W g9 34 #[.string ca, .string cb, .string cc, .int .u64 (cf : Nat)] ∧ Below w.heap.size w W) := ⟨fun W b => ⟨N9.kept (Kept.of_below b (fun _ => False)) id, by rw [← HG.out]; exact (HX.out W (HY.out W (B9.trans (b.mono B9.size))).2.2).2⟩⟩
        clear N9 B9 HC HD
        go_wp2_with fail
        refine M.mono ?_
        rintro e w10 ⟨rfl, b10⟩
        clear M d0 d1 d2 d3 d4 d5 t0 t1 t2 t3 t4 t5 t6
        go_upto_region 8 with fail
        have N11 := Blk.new w10 34 #[.string da, .string db, .string dc, .int .u64 (df : Nat)]
        have B11 : Below w9.heap.size w9 (w10.alloc (.cells #[.string da, .string db, .string dc, .int .u64 (df : Nat)] 34)) := b10.trans ((alloc_below _ _).mono b10.size)
        generalize w10.alloc _ = w11 at *
        generalize w10.heap.size = g11 at *
        obtain ⟨N9, BF⟩ := HZ.out w11 B11
        have HBF : Hd (Below w.heap.size w w11) := ⟨BF⟩
        have p0 := N9.cellv (v := .string ca) 0 rfl
        have p2 := N9.cellv (v := .string cc) 2 rfl
        have p3 := N9.cellv (v := .int .u64 (cf : Nat)) 3 rfl
        have o0 := N11.cellv (v := .string da) 0 rfl
        have o2 := N11.cellv (v := .string dc) 2 rfl
        have o3 := N11.cellv (v := .int .u64 (df : Nat)) 3 rfl
        clear N9 N11 BF B11 b10 HZ HY HX HM HP HQ
        rcases hce with rfl | rfl
        · rcases hde with rfl | rfl
          · obtain ⟨f1, f2⟩ := HCF.out
            have F1 := f1 rfl
            have F2 := f2 rfl
            clear f1 f2 HCF
            by_cases hs : ca = da
            · subst hs
              by_cases hk : cc = dc
              · subst hk
                have : cf = df := by rw [F1, F2]
                subst this
                clear F1 F2
                go_wp2_with fail
                all_goals (go_ret; exact ⟨rfl, HBF.out⟩)
              · have E : (cc.toList == dc.toList) = false := str_isnt hk
                clear F1 F2 hk
                go_wp2_with fail
                all_goals (go_ret; exact ⟨rfl, HBF.out⟩)
            · have E : (ca.toList == da.toList) = false := str_isnt hs
              clear F1 F2 hs
              go_wp2_with fail
              all_goals (go_ret; exact ⟨rfl, HBF.out⟩)
          · clear HCF
            go_wp2_with fail
            all_goals (go_ret; exact ⟨rfl, HBF.out⟩)
        · clear HCF hde
          go_wp2_with fail
          all_goals (go_ret; exact ⟨rfl, HBF.out⟩)
end Go.Proofs.Ytijjpblmnlednaa
