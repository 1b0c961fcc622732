/-
  The walk of 'FlowAll'. Condition: schemas and request lie in memory.
-/
import Derived.Test.YtijjpblmnlednaaAw
import Derived.Test.YtijjpblmnlednaaRc
import Derived.Test.YtijjpblmnlednaaSmC
import Derived.Test.YtijjpblmnlednaaRowS
namespace Go.Proofs.Ytijjpblmnlednaa
open Go.RowKit

theorem clOf_ex (o : Option Sc) (q : Rq) : ∃ a b c f, clOf o q = #[.string a, .string b, .string c, .int .u64 (f : Nat)] := by
  cases o with
  | none => exact ⟨_, _, _, _, rfl⟩
  | some s => exact ⟨_, _, _, _, rfl⟩
set_option maxRecDepth 20000 in
set_option maxHeartbeats 4000000 in
theorem all_law {ag aS : Option Addr} {ng cg nS cS : Nat} (S : List Sc) (q : Rq) (w : World) (hv : SsR w (.slice aS nS cS) S) (hc : nS ≤ cS) (hq : RqR w (.agg #[.string q.user, .slice ag ng cg, .string q.verb, .string q.resource, .string q.space, .int .i64 q.objects]) q) :
    Calls Try.prog 3 #[.slice aS nS cS, .agg #[.string q.user, .slice ag ng cg, .string q.verb, .string q.resource, .string q.space, .int .i64 q.objects]] w fun e w' => e = .returned (.bool true) ∧ Below w.heap.size w w' := by
  obtain ⟨w1, hw1⟩ : ∃ w1, w1 = w.alloc (.cells #[.string q.user, .slice ag ng cg, .string q.verb, .string q.resource, .string q.space, .int .i64 q.objects] 25) := ⟨_, rfl⟩
  have B1 : Below w.heap.size w w1 := by rw [hw1]; exact alloc_below _ _
  have N1 : Blk w1 w.heap.size 25 #[.string q.user, .slice ag ng cg, .string q.verb, .string q.resource, .string q.space, .int .i64 q.objects] := by rw [hw1]; exact Blk.new _ _ _
  obtain ⟨ag', ng', cg', eq, hg⟩ := hq.ex
  have hg' : LsR w (.slice ag ng cg) q.groups := by
    have : (.slice ag ng cg : Value) = .slice ag' ng' cg' := by simp at eq; simp [eq]
    rw [this]; exact hg
  clear eq hg
  have HW : Hd (∀ W, Below w1.heap.size w1 W → Blk W w.heap.size 25 #[.string q.user, .slice ag ng cg, .string q.verb, .string q.resource, .string q.space, .int .i64 q.objects] ∧ Below w.heap.size w W ∧ SsR W (.slice aS nS cS) S ∧ LsR W (.slice ag ng cg) q.groups ∧ RqR W (.agg #[.string q.user, .slice ag ng cg, .string q.verb, .string q.resource, .string q.space, .int .i64 q.objects]) q) := ⟨fun W b => by
    have b' := B1.trans (b.mono B1.size)
    exact ⟨N1.kept (Kept.of_below b (fun _ => False)) id, b', hv.carry b', hg'.carry b', hq.carry b'⟩⟩
  have HS : Hd (q.user.size ≤ 9223372036854775807 ∧ q.space.size ≤ 9223372036854775807) := ⟨hq.sz.1, hq.sz.2.2.2⟩
  clear N1 B1 hv hg' hq
  obtain ⟨ca, cb, cc, cf, hcl⟩ := clOf_ex (findS S q) q
  have HC : Hd (∀ W, Below w1.heap.size w1 W → Calls Try.prog 10 #[.agg #[.int .i64 0, .int .i64 0, .int .i64 0, .int .i64 0, .slice none 0 0, .slice aS nS cS, .int .u64 0], .agg #[.string q.user, .slice ag ng cg, .string q.verb, .string q.resource, .string q.space, .int .i64 q.objects]] W fun e w' => e = .returned (.tuple #[.agg #[.string ca, .string cb, .string cc, .int .u64 (cf : Nat)], .int .i64 (erOf (findS S q))]) ∧ Below W.heap.size W w') := ⟨fun W b => by
    obtain ⟨-, -, h3, h4, -⟩ := HW.out W b
    have := classify_ok (z0 := 0) (z1 := 0) (z2 := 0) (z3 := 0) (aL := none) (nL := 0) (cL := 0) (d := 0) S q W h3 h4 HS.out.1 HS.out.2
    rw [hcl] at this
    exact this⟩
  have HR : Hd (q.user.size ≤ 1000 ∧ q.space.size ≤ 1000 → (∀ s ∈ S, s.name.size ≤ 1000) → ∀ W, Below w1.heap.size w1 W → Calls Try.prog 11 #[.agg #[.int .i64 0, .int .i64 0, .int .i64 0, .int .i64 0, .slice none 0 0, .slice aS nS cS, .int .u64 0], .agg #[.string q.user, .slice ag ng cg, .string q.verb, .string q.resource, .string q.space, .int .i64 q.objects]] W fun e w' => e = .returned (.tuple #[.agg #[.string ca, .string cb, .string cc, .int .u64 (cf : Nat)], .int .i64 (erOf (findS S q))]) ∧ Below W.heap.size W w') := ⟨fun hs hn W b => by
    obtain ⟨-, -, h3, h4, -⟩ := HW.out W b
    have := rclassify_ok (z0 := 0) (z1 := 0) (z2 := 0) (z3 := 0) (aL := none) (nL := 0) (cL := 0) (d := 0) S q W h3 h4 hs.1 hs.2 hn
    rw [hcl] at this
    exact this⟩
  have HL : Hd (cf < 18446744073709551616 ∨ True) := ⟨.inr trivial⟩
  have HM : Hd (∀ W, Below w1.heap.size w1 W → Calls Try.prog 8 #[.agg #[.int .i64 0, .int .i64 0, .int .i64 0, .int .i64 0, .slice none 0 0, .slice aS nS cS]] W fun e w' => IsC ⟨0, 0, 0, 0, [], S⟩ e ∧ Below W.heap.size W w') := ⟨fun W b => small_nm _ _ W (cf_of (HW.out W b).2.2.1 hc)⟩
  have HQ : Hd (∀ W, Below w1.heap.size w1 W → Calls Try.prog 9 #[.agg #[.string q.user, .slice ag ng cg, .string q.verb, .string q.resource, .string q.space, .int .i64 q.objects]] W fun e w' => IsQ q e ∧ Below W.heap.size W w') := ⟨fun W b => smallQ_ok _ q W (HW.out W b).2.2.2.2⟩
  have HX : Hd (∀ W, Below w1.heap.size w1 W → Blk W w.heap.size 25 #[.string q.user, .slice ag ng cg, .string q.verb, .string q.resource, .string q.space, .int .i64 q.objects] ∧ Below w.heap.size w W) := ⟨fun W b => ⟨(HW.out W b).1, (HW.out W b).2.1⟩⟩
  clear HW HS hcl
  generalize erOf (findS S q) = er at *
  have I := awake_ok w1
  go_enter Try.func3, Try.ntmps3
  go_upto_region 1 with fail
  rw [← hw1]
  clear hw1
  obtain ⟨g, hg⟩ : ∃ g, g = w.heap.size := ⟨_, rfl⟩
  rw [← hg]
  have HG : Hd (g = w.heap.size) := ⟨hg⟩
  rw [← hg] at HX
  clear hg
  go_upto_region 4 with (go_at_call 7; refine I.mono ?_; rintro e w2 ⟨rfl, b2⟩)
  clear I
  have N5 := Blk.new w2 29 #[.int .i64 0, .int .i64 0, .int .i64 0, .int .i64 0, .slice none 0 0, .slice aS nS cS]
  have B3 : Below w1.heap.size w1 (w2.alloc (.cells #[.int .i64 0, .int .i64 0, .int .i64 0, .int .i64 0, .slice none 0 0, .slice aS nS cS] 29)) := b2.trans ((alloc_below _ _).mono b2.size)
  generalize w2.alloc _ = w3 at *
  generalize w2.heap.size = g5 at *
  have HY : Hd (∀ W, Below w3.heap.size w3 W → (Blk W g 25 #[.string q.user, .slice ag ng cg, .string q.verb, .string q.resource, .string q.space, .int .i64 q.objects] ∧ Blk W g5 29 #[.int .i64 0, .int .i64 0, .int .i64 0, .int .i64 0, .slice none 0 0, .slice aS nS cS]) ∧ Below w1.heap.size w1 W) := ⟨fun W b => by
    have b' := B3.trans (b.mono B3.size)
    exact ⟨⟨(HX.out W b').1, N5.kept (Kept.of_below b (fun _ => False)) id⟩, b'⟩⟩
  clear N5 b2
  obtain ⟨⟨NQ, NC⟩, -⟩ := HY.out w3 (Below.refl _ _)
  have d0 := NQ.cellv (v := .string q.user) 0 rfl
  have d1 := NQ.cellv (v := .slice ag ng cg) 1 rfl
  have d2 := NQ.cellv (v := .string q.verb) 2 rfl
  have d3 := NQ.cellv (v := .string q.resource) 3 rfl
  have d4 := NQ.cellv (v := .string q.space) 4 rfl
  have d5 := NQ.cellv (v := .int .i64 q.objects) 5 rfl
  have e0 := NC.cellv (v := .int .i64 0) 0 rfl
  have e1 := NC.cellv (v := .int .i64 0) 1 rfl
  have e2 := NC.cellv (v := .int .i64 0) 2 rfl
  have e3 := NC.cellv (v := .int .i64 0) 3 rfl
  have e4 := NC.cellv (v := .slice none 0 0) 4 rfl
  have e5 := NC.cellv (v := .slice aS nS cS) 5 rfl
  clear NQ NC
  have M := HM.out w3 B3
  clear B3
  go_wp2_with fail
  refine M.mono ?_
  rintro e w4 ⟨hb4, b4⟩
  obtain ⟨bs, rfl, hbs⟩ := hb4.ex
  clear hb4 M d0 d1 d2 d3 d4 d5 e0 e1 e2 e3 e4 e5
  have B4 : Hd (Below w3.heap.size w3 w4) := ⟨b4⟩
  clear b4
  cases bs with
  | false =>
    clear hbs
    have Y := HX.out w4 (HY.out w4 B4.out).2
    go_wp2_with fail
    go_ret
    exact ⟨rfl, by rw [← HG.out]; exact Y.2⟩
  | true =>
    have HN : Hd (∀ s ∈ S, s.name.size ≤ 1000) := ⟨fun s hs => ((hbs rfl).2.sc s hs).1⟩
    clear hbs
    obtain ⟨⟨NQ, NC⟩, -⟩ := HY.out w4 B4.out
    have d0 := NQ.cellv (v := .string q.user) 0 rfl
    have d1 := NQ.cellv (v := .slice ag ng cg) 1 rfl
    have d2 := NQ.cellv (v := .string q.verb) 2 rfl
    have d3 := NQ.cellv (v := .string q.resource) 3 rfl
    have d4 := NQ.cellv (v := .string q.space) 4 rfl
    have d5 := NQ.cellv (v := .int .i64 q.objects) 5 rfl
    have e0 := NC.cellv (v := .int .i64 0) 0 rfl
    have e1 := NC.cellv (v := .int .i64 0) 1 rfl
    have e2 := NC.cellv (v := .int .i64 0) 2 rfl
    have e3 := NC.cellv (v := .int .i64 0) 3 rfl
    have e4 := NC.cellv (v := .slice none 0 0) 4 rfl
    have e5 := NC.cellv (v := .slice aS nS cS) 5 rfl
    clear NQ NC
    have M := HQ.out w4 (HY.out w4 B4.out).2
    go_wp2_with fail
    refine M.mono ?_
    rintro e w5 ⟨hb5, b5⟩
    obtain ⟨bs, rfl, hbs⟩ := hb5.ex
    clear hb5 M d0 d1 d2 d3 d4 d5 e0 e1 e2 e3 e4 e5
    have B5 : Hd (Below w3.heap.size w3 w5) := ⟨B4.out.trans (b5.mono B4.out.size)⟩
    clear b5 B4
    cases bs with
    | false =>
      clear hbs
      have Y := HX.out w5 (HY.out w5 B5.out).2
      go_wp2_with fail
      go_ret
      exact ⟨rfl, by rw [← HG.out]; exact Y.2⟩
    | true =>
      have R := HR.out ⟨(hbs rfl).2.1, (hbs rfl).2.2⟩ HN.out
      have HRR : Hd _ := ⟨R⟩
      clear hbs R HR
      obtain ⟨⟨NQ, NC⟩, -⟩ := HY.out w5 B5.out
      have d0 := NQ.cellv (v := .string q.user) 0 rfl
      have d1 := NQ.cellv (v := .slice ag ng cg) 1 rfl
      have d2 := NQ.cellv (v := .string q.verb) 2 rfl
      have d3 := NQ.cellv (v := .string q.resource) 3 rfl
      have d4 := NQ.cellv (v := .string q.space) 4 rfl
      have d5 := NQ.cellv (v := .int .i64 q.objects) 5 rfl
      have e0 := NC.cellv (v := .int .i64 0) 0 rfl
      have e1 := NC.cellv (v := .int .i64 0) 1 rfl
      have e2 := NC.cellv (v := .int .i64 0) 2 rfl
      have e3 := NC.cellv (v := .int .i64 0) 3 rfl
      have e4 := NC.cellv (v := .slice none 0 0) 4 rfl
      have e5 := NC.cellv (v := .slice aS nS cS) 5 rfl
      clear NQ NC
      have M := HC.out w5 (HY.out w5 B5.out).2
      go_upto_region 6 with fail
      go_wp2_with fail
      refine M.mono ?_
      rintro e w6 ⟨rfl, b6⟩
      clear M d0 d1 d2 d3 d4 d5 e0 e1 e2 e3 e4 e5
      have B6 : Hd (Below w3.heap.size w3 w6) := ⟨B5.out.trans (b6.mono B5.out.size)⟩
      clear b6 B5
      go_upto_region 7 with fail
      have N7 := Blk.new w6 34 #[.string ca, .string cb, .string cc, .int .u64 (cf : Nat)]
      have B7 : Below w3.heap.size w3 (w6.alloc (.cells #[.string ca, .string cb, .string cc, .int .u64 (cf : Nat)] 34)) := B6.out.trans ((alloc_below _ _).mono B6.out.size)
      generalize w6.alloc _ = w7 at *
      generalize w6.heap.size = g7 at *
      obtain ⟨⟨NQ, NC⟩, -⟩ := HY.out w7 B7
      have d0 := NQ.cellv (v := .string q.user) 0 rfl
      have d1 := NQ.cellv (v := .slice ag ng cg) 1 rfl
      have d2 := NQ.cellv (v := .string q.verb) 2 rfl
      have d3 := NQ.cellv (v := .string q.resource) 3 rfl
      have d4 := NQ.cellv (v := .string q.space) 4 rfl
      have d5 := NQ.cellv (v := .int .i64 q.objects) 5 rfl
      have e0 := NC.cellv (v := .int .i64 0) 0 rfl
      have e1 := NC.cellv (v := .int .i64 0) 1 rfl
      have e2 := NC.cellv (v := .int .i64 0) 2 rfl
      have e3 := NC.cellv (v := .int .i64 0) 3 rfl
      have e4 := NC.cellv (v := .slice none 0 0) 4 rfl
      have e5 := NC.cellv (v := .slice aS nS cS) 5 rfl
      clear NQ NC
      have M := HRR.out w7 (HY.out w7 B7).2
      have HZ : Hd (∀ W, Below w7.heap.size w7 W → Blk W g7 34 #[.string ca, .string cb, .string cc, .int .u64 (cf : Nat)] ∧ Below w.heap.size w W) := ⟨fun W b => ⟨N7.kept (Kept.of_below b (fun _ => False)) id, by rw [← HG.out]; exact (HX.out W (HY.out W (B7.trans (b.mono B7.size))).2).2⟩⟩
      clear N7 B7 B6 HC HRR
      go_wp2_with fail
      refine M.mono ?_
      rintro e w8 ⟨rfl, b8⟩
      clear M d0 d1 d2 d3 d4 d5 e0 e1 e2 e3 e4 e5
      go_upto_region 8 with fail
      have N9 := Blk.new w8 34 #[.string ca, .string cb, .string cc, .int .u64 (cf : Nat)]
      have B9 : Below w7.heap.size w7 (w8.alloc (.cells #[.string ca, .string cb, .string cc, .int .u64 (cf : Nat)] 34)) := b8.trans ((alloc_below _ _).mono b8.size)
      generalize w8.alloc _ = w9 at *
      generalize w8.heap.size = g9 at *
      obtain ⟨N8, BF⟩ := HZ.out w9 B9
      have HBF : Hd (Below w.heap.size w w9) := ⟨BF⟩
      have p0 := N8.cellv (v := .string ca) 0 rfl
      have p1 := N8.cellv (v := .string cb) 1 rfl
      have p2 := N8.cellv (v := .string cc) 2 rfl
      have p3 := N8.cellv (v := .int .u64 (cf : Nat)) 3 rfl
      have o0 := N9.cellv (v := .string ca) 0 rfl
      have o1 := N9.cellv (v := .string cb) 1 rfl
      have o2 := N9.cellv (v := .string cc) 2 rfl
      have o3 := N9.cellv (v := .int .u64 (cf : Nat)) 3 rfl
      clear N8 N9 BF B9 b8 HZ HY HX HM HQ
      go_wp2_with fail
      all_goals (go_ret; exact ⟨rfl, HBF.out⟩)
end Go.Proofs.Ytijjpblmnlednaa
