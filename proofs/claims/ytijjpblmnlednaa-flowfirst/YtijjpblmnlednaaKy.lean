/-
  What tells flows apart: 'Key' of flow and of the reference; the class of a request that a schema speaks of. Condition: texts have a length.
-/
import Derived.Test.YtijjpblmnlednaaSb
import Derived.Test.YtijjpblmnlednaaFn
import Derived.Test.YtijjpblmnlednaaOrQ
namespace Go.Proofs.Ytijjpblmnlednaa
open Go.RowKit

def keyB (n : Int) (q : Rq) : ByteArray := if n = 1 then q.user else if n = 2 then q.space else ⟨#[]⟩
theorem keyB_size {n : Int} {q : Rq} {m : Nat} (h0 : q.user.size ≤ m) (h1 : q.space.size ≤ m) : (keyB n q).size ≤ m := by
  unfold keyB
  by_cases c : n = 1
  · rw [if_pos c]; exact h0
  · rw [if_neg c]
    by_cases d : n = 2
    · rw [if_pos d]; exact h1
    · rw [if_neg d]; exact Nat.zero_le _
theorem keyB_one (n : Int) (q : Rq) : keyB n q = ⟨#[]⟩ ∨ keyB n q = q.user ∨ keyB n q = q.space := by
  unfold keyB
  by_cases c : n = 1
  · rw [if_pos c]; exact .inr (.inl rfl)
  · rw [if_neg c]
    by_cases d : n = 2
    · rw [if_pos d]; exact .inr (.inr rfl)
    · rw [if_neg d]; exact .inl rfl

theorem key_ok {ag : Option Addr} {ng cg : Nat} (n : Int) (q : Rq) (w : World) :
    Calls Try.prog 13 #[.int .i64 n, .agg #[.string q.user, .slice ag ng cg, .string q.verb, .string q.resource, .string q.space, .int .i64 q.objects]] w fun e w' => e = .returned (.string (keyB n q)) ∧ Below w.heap.size w w' := by
  obtain ⟨x0, G, x2, x3, x4, x5⟩ := q
  simp only
  have B : Hd (Below w.heap.size w (w.alloc (.cells #[.string x0, .slice ag ng cg, .string x2, .string x3, .string x4, .int .i64 x5] 25))) := ⟨alloc_below _ _⟩
  have N0 := Blk.new w 25 #[.string x0, .slice ag ng cg, .string x2, .string x3, .string x4, .int .i64 x5]
  have d0 := N0.cellv (v := .string x0) 0 rfl
  have d4 := N0.cellv (v := .string x4) 4 rfl
  clear N0
  by_cases h1 : n = 1
  · subst h1
    have K : Hd (keyB 1 ⟨x0, G, x2, x3, x4, x5⟩ = x0) := ⟨rfl⟩
    go_enter Try.func13, Try.ntmps13
    go_wp2_with fail
    go_ret
    exact ⟨by rw [K.out]; rfl, B.out⟩
  have e1 : (n == 1) = false := by simpa using h1
  by_cases h2 : n = 2
  · subst h2
    have K : Hd (keyB 2 ⟨x0, G, x2, x3, x4, x5⟩ = x4) := ⟨rfl⟩
    clear h1 e1
    go_enter Try.func13, Try.ntmps13
    go_wp2_with fail
    go_ret
    exact ⟨by rw [K.out]; rfl, B.out⟩
  have e2 : (n == 2) = false := by simpa using h2
  have K : Hd (keyB n ⟨x0, G, x2, x3, x4, x5⟩ = ⟨#[]⟩) := ⟨by unfold keyB; rw [if_neg h1, if_neg h2]⟩
  clear h1 h2
  go_enter Try.func13, Try.ntmps13
  go_wp2_with fail
  go_ret
  exact ⟨by rw [K.out]; rfl, B.out⟩

theorem rkey_ok {ag : Option Addr} {ng cg : Nat} (n : Int) (q : Rq) (w : World) :
    Calls Try.prog 14 #[.int .i64 n, .agg #[.string q.user, .slice ag ng cg, .string q.verb, .string q.resource, .string q.space, .int .i64 q.objects]] w fun e w' => e = .returned (.string (keyB n q)) ∧ Below w.heap.size w w' := by
  obtain ⟨x0, G, x2, x3, x4, x5⟩ := q
  simp only
  have B : Hd (Below w.heap.size w (w.alloc (.cells #[.string x0, .slice ag ng cg, .string x2, .string x3, .string x4, .int .i64 x5] 25))) := ⟨alloc_below _ _⟩
  have N0 := Blk.new w 25 #[.string x0, .slice ag ng cg, .string x2, .string x3, .string x4, .int .i64 x5]
  have d0 := N0.cellv (v := .string x0) 0 rfl
  have d4 := N0.cellv (v := .string x4) 4 rfl
  clear N0
  by_cases h1 : n = 1
  · subst h1
    have K : Hd (keyB 1 ⟨x0, G, x2, x3, x4, x5⟩ = x0) := ⟨rfl⟩
    go_enter Try.func14, Try.ntmps14
    go_wp2_with fail
    go_ret
    exact ⟨by rw [K.out]; rfl, B.out⟩
  have e1 : (n == 1) = false := by simpa using h1
  by_cases h2 : n = 2
  · subst h2
    have K : Hd (keyB 2 ⟨x0, G, x2, x3, x4, x5⟩ = x4) := ⟨rfl⟩
    clear h1 e1
    go_enter Try.func14, Try.ntmps14
    go_wp2_with fail
    go_ret
    exact ⟨by rw [K.out]; rfl, B.out⟩
  have e2 : (n == 2) = false := by simpa using h2
  have K : Hd (keyB n ⟨x0, G, x2, x3, x4, x5⟩ = ⟨#[]⟩) := ⟨by unfold keyB; rw [if_neg h1, if_neg h2]⟩
  clear h1 h2
  go_enter Try.func14, Try.ntmps14
  go_wp2_with fail
  go_ret
  exact ⟨by rw [K.out]; rfl, B.out⟩

/-- Three boxes. -/
theorem boxes3 (w : World) (t1 t2 t3 : Nat) (x y z : Array Value) : Below w.heap.size w (((w.alloc (.cells x t1)).alloc (.cells y t2)).alloc (.cells z t3)) ∧ Blk (((w.alloc (.cells x t1)).alloc (.cells y t2)).alloc (.cells z t3)) w.heap.size t1 x ∧ Blk (((w.alloc (.cells x t1)).alloc (.cells y t2)).alloc (.cells z t3)) (w.heap.size + 1) t2 y ∧ Blk (((w.alloc (.cells x t1)).alloc (.cells y t2)).alloc (.cells z t3)) (w.heap.size + 1 + 1) t3 z := by
  refine ⟨(((Below.refl _ _).alloc (Nat.le_refl _) _).alloc (by simp) _).alloc (by simp; omega) _, ((Blk.new w t1 x).alloc _).alloc _, (alloc_new w _ t2 y).alloc _, ?_⟩
  have := alloc_new (w.alloc (.cells x t1)) (.cells y t2) t3 z
  rw [show (w.alloc (.cells x t1)).heap.size = w.heap.size + 1 from by simp] at this
  exact this
def clC (s l k : ByteArray) (f : Nat) : Array Value := #[.string s, .string l, .string k, .int .u64 f]
def clA (s : Sc) (q : Rq) : Array Value := clC s.name s.level (keyB s.way q) (Fn.flow s.name (keyB s.way q))
def clZ : Array Value := clC ⟨#[]⟩ ⟨#[]⟩ ⟨#[]⟩ 0
/-- A class's four cells, put. -/
theorem four_set {w : World} {g : Nat} {a b c a' b' c' : ByteArray} {d d' : Nat} (h : Blk w g 34 (clC a b c d)) :
    Blk ((((w.setCell ⟨g, 0, none⟩ (.string a')).setCell ⟨g, 1, none⟩ (.string b')).setCell ⟨g, 2, none⟩ (.string c')).setCell ⟨g, 3, none⟩ (.int .u64 d')) g 34 (clC a' b' c' d')
    ∧ Kept (fun k => k = g) w ((((w.setCell ⟨g, 0, none⟩ (.string a')).setCell ⟨g, 1, none⟩ (.string b')).setCell ⟨g, 2, none⟩ (.string c')).setCell ⟨g, 3, none⟩ (.int .u64 d')) := by
  refine ⟨?_, ((((Kept.refl (fun k => k = g) w).setCell _ _ (.inl rfl)).setCell _ _ (.inl rfl)).setCell _ _ (.inl rfl)).setCell _ _ (.inl rfl)⟩
  have := (((h.set 0 (.string a')).set 1 (.string b')).set 2 (.string c')).set 3 (.int .u64 d')
  simpa [clC] using this
theorem Blk.four {w : World} {g : Nat} {a b c : ByteArray} {d : Nat} (h : Blk w g 34 (clC a b c d)) :
    (w.cell? ⟨g, 0, none⟩ = some (.string a) ∧ w.cell? ⟨g, 1, none⟩ = some (.string b) ∧ w.cell? ⟨g, 2, none⟩ = some (.string c) ∧ w.cell? ⟨g, 3, none⟩ = some (.int .u64 d))
    ∧ w.frozen? ⟨g, 0, none⟩ = false ∧ w.frozen? ⟨g, 1, none⟩ = false ∧ w.frozen? ⟨g, 2, none⟩ = false ∧ w.frozen? ⟨g, 3, none⟩ = false :=
  ⟨⟨h.cellv 0 rfl, h.cellv 1 rfl, h.cellv 2 rfl, h.cellv 3 rfl⟩, h.frozen 0, h.frozen 1, h.frozen 2, h.frozen 3⟩
theorem resCls (tmps : Array Value) (w : World) (g : Nat) {a b c : ByteArray} {d : Nat} (ht : tmps[4]?.getD undef = .pointer (some ⟨g, 0, none⟩)) (h : Blk w g 34 (clC a b c d)) :
    (results Try.f17 tmps).run Try.prog w = .ok (.agg (clC a b c d)) w := by
  obtain ⟨⟨c0, c1, c2, c3⟩, -⟩ := h.four
  simp [results, Try.results17, go_sem, ht, c0, c1, c2, c3, clC]

set_option maxRecDepth 20000 in
set_option maxHeartbeats 2000000 in
theorem cls_ok {ag ar : Option Addr} {ng cg nr cr : Nat} {y0 y1 : ByteArray} {y2 y3 : Int} (q : Rq) (w : World) (h0 : y0.size ≤ 9223372036854775807) (hu : q.user.size ≤ 9223372036854775807) (hs : q.space.size ≤ 9223372036854775807) :
    Calls Try.prog 17 #[.agg #[.string y0, .string y1, .int .i64 y2, .int .i64 y3, .slice ar nr cr], .agg #[.string q.user, .slice ag ng cg, .string q.verb, .string q.resource, .string q.space, .int .i64 q.objects]] w fun e w' => e = .returned (.agg (clC y0 y1 (keyB y3 q) (Fn.flow y0 (keyB y3 q)))) ∧ Below w.heap.size w w' := by
  obtain ⟨w2, hw2⟩ : ∃ w2, w2 = ((w.alloc (.cells #[.string y0, .string y1, .int .i64 y2, .int .i64 y3, .slice ar nr cr] 46)).alloc (.cells #[.string q.user, .slice ag ng cg, .string q.verb, .string q.resource, .string q.space, .int .i64 q.objects] 25)).alloc (.cells #[.string ⟨#[]⟩, .string ⟨#[]⟩, .string ⟨#[]⟩, .int .u64 0] 34) := ⟨_, rfl⟩
  have BX := boxes3 w 46 25 34 #[.string y0, .string y1, .int .i64 y2, .int .i64 y3, .slice ar nr cr] #[.string q.user, .slice ag ng cg, .string q.verb, .string q.resource, .string q.space, .int .i64 q.objects] #[.string ⟨#[]⟩, .string ⟨#[]⟩, .string ⟨#[]⟩, .int .u64 0]
  rw [← hw2] at BX
  obtain ⟨B, N1, N2, N3⟩ := BX
  have K0 := key_ok (ag := ag) (ng := ng) (cg := cg) y3 q w2
  have hk := keyB_size (n := y3) hu hs
  have HW : Hd (∀ W, Below w2.heap.size w2 W → Blk W w.heap.size 46 #[.string y0, .string y1, .int .i64 y2, .int .i64 y3, .slice ar nr cr] ∧ Blk W (w.heap.size + 1 + 1) 34 clZ) := ⟨fun W b => ⟨N1.kept (Kept.of_below b (fun _ => False)) id, N3.kept (Kept.of_below b (fun _ => False)) id⟩⟩
  have HB : Hd (Below w.heap.size w w2) := ⟨B⟩
  have e3 := N1.cellv (v := .int .i64 y3) 3 rfl
  have d0 := N2.cellv (v := .string q.user) 0 rfl
  have d1 := N2.cellv (v := .slice ag ng cg) 1 rfl
  have d2 := N2.cellv (v := .string q.verb) 2 rfl
  have d3 := N2.cellv (v := .string q.resource) 3 rfl
  have d4 := N2.cellv (v := .string q.space) 4 rfl
  have d5 := N2.cellv (v := .int .i64 q.objects) 5 rfl
  have FL : Hd (∀ W, Calls Try.prog 23 #[.string y0, .string (keyB y3 q)] W fun e w' => e = .returned (.int .u64 (Fn.flow y0 (keyB y3 q) : Nat)) ∧ w' = W) := ⟨fun W => Fn.flow_ok y0 (keyB y3 q) h0 hk W⟩
  have LF : Hd (Fn.flow y0 (keyB y3 q) < 18446744073709551616) := ⟨Fn.flow_lt _ _⟩
  clear N1 N2 N3 B h0 hu hs hk
  generalize Fn.flow y0 (keyB y3 q) = f at *
  generalize keyB y3 q = kx at *
  obtain ⟨x0, G, x2, x3, x4, x5⟩ := q
  simp only at *
  go_enter Try.func17, Try.ntmps17
  go_upto_region 1 with fail
  rw [← hw2]
  clear hw2
  go_upto_region 2 with (go_at_call 13; refine K0.mono ?_; rintro e w3 ⟨rfl, b3⟩)
  obtain ⟨N1, N3⟩ := HW.out w3 b3
  have B3 : Hd (Below w.heap.size w w3) := ⟨HB.out.trans (b3.mono HB.out.size)⟩
  clear e3 d0 d1 d2 d3 d4 d5 K0 HW b3 HB
  have LE : Hd (w.heap.size ≤ w.heap.size + 1 + 1) := ⟨by omega⟩
  generalize w.heap.size + 1 + 1 = A3 at *
  obtain ⟨A1, hA1⟩ : ∃ A1, A1 = w.heap.size := ⟨_, rfl⟩
  have HA : Hd (A1 = w.heap.size) := ⟨hA1⟩
  rw [← hA1] at N1 B3 LE ⊢
  clear hA1
  have N1' : Blk w3.drew A1 46 #[.string y0, .string y1, .int .i64 y2, .int .i64 y3, .slice ar nr cr] := N1
  have N3' : Blk w3.drew A3 34 clZ := N3
  have NE : A1 ≠ A3 := N1.ne N3 (by decide)
  have B3' : Below A1 w w3.drew := B3.out.drew
  clear N1 N3 B3
  refine AnyG.start (T := fun W => Blk W A1 46 #[.string y0, .string y1, .int .i64 y2, .int .i64 y3, .slice ar nr cr]) (U := fun _ => True) (j0 := 100) (by kernel_rfl) ?_
  generalize w3.drew = w0 at *
  have X0 : Hd (∀ W, Blk W A1 46 #[.string y0, .string y1, .int .i64 y2, .int .i64 y3, .slice ar nr cr] → W.cell? ⟨A1, 0, none⟩ = some (.string y0)) := ⟨fun W h => h.cellv 0 rfl⟩
  have X1 : Hd (∀ W, Blk W A1 46 #[.string y0, .string y1, .int .i64 y2, .int .i64 y3, .slice ar nr cr] → W.cell? ⟨A1, 1, none⟩ = some (.string y1)) := ⟨fun W h => h.cellv 1 rfl⟩
  refine .tq 0 10 N1' ?_; simp only [tkA, tkB, tkC]
  refine .tq 1 11 N1' ?_ (hy := fun w hSw => by have s := X0.out w hSw; go_simp; rfl); simp only [tkA, tkB, tkC]
  refine .tq 2 12 N1' ?_; simp only [tkA, tkB, tkC]
  refine .tq 3 13 N1' ?_ (hy := fun w hSw => by have s := X1.out w hSw; go_simp; rfl); simp only [tkA, tkB, tkC]
  refine .tq 4 14 N1' ?_; simp only [tkA, tkB, tkC]
  refine .tq 5 15 N1' ?_; simp only [tkA, tkB, tkC]
  refine .tq 6 16 N1' ?_ (hy := fun w hSw => by have s := X0.out w hSw; go_simp; rfl); simp only [tkA, tkB, tkC]
  refine .tq 7 17 N1' ?_; simp only [tkA, tkB, tkC]
  refine AnyG.ready (rs := [8]) (by kernel_rfl) (by simp) ?_
  refine AllG.cons rfl (fun K hK => ?_) AllG.nil
  go_simp
  refine (FL.out w0).mono ?_
  rintro e wk ⟨rfl, hwk⟩
  obtain rfl := hwk.symm
  refine hK.out _ _ ⟨N1', fun _ => trivial⟩ ?_
  clear hK K FL X0 X1
  refine AnyG.ready (rs := [9]) (by kernel_rfl) (by simp) ?_
  refine AllG.cons rfl (fun K hK => ?_) AllG.nil
  go_simp
  refine hK.out _ _ ⟨N1', fun _ => trivial⟩ ?_
  clear hK K
  obtain ⟨⟨r0, r1, r2, r3⟩, f0, f1, f2, f3⟩ := N3'.four
  obtain ⟨q1, q2⟩ := four_set (a' := y0) (b' := y1) (c' := kx) (d' := f) N3'
  refine AnyG.ready (rs := [10]) (by kernel_rfl) (by simp) ?_
  refine AllG.cons rfl (fun K hK => ?_) AllG.nil
  go_simp
  refine hK.out _ _ ⟨N1'.kept q2 NE, fun _ => trivial⟩ ?_
  clear hK K
  refine AnyG.done (by kernel_rfl) ?_ _
  go_wp2_with fail
  refine bodyPost_ret (resCls _ _ _ rfl q1) rfl ?_
  exact ⟨rfl, by rw [← HA.out]; exact B3'.trans (q2.below (Nat.le_of_lt N1'.lt) (fun k e => by rw [e]; exact LE.out))⟩
end Go.Proofs.Ytijjpblmnlednaa
