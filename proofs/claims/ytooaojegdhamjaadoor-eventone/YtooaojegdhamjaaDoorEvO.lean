/-
  That the reference says of two events that are the same that they are; and what its look at a request's size says. Condition: what is compared lies in memory.
-/
import Derived.Test.YtooaojegdhamjaaDoorEvN
namespace Go.Proofs.YtooaojegdhamjaaDoor
open Go.RowKit Go.Lib

set_option maxHeartbeats 4000000 in
set_option maxRecDepth 20000 in
theorem rsame_yes (e : Ev) (a b : Option Addr) (c1 c2 : Nat) (w : World) (h1 : RowL w a e.g) (h2 : RowL w b e.g) (hn : e.g.length ≤ 9223372036854775807) :
    Calls Tryd.prog 10 #[evV e a c1, evV e b c2] w fun q w' => q = .returned (.bool true) ∧ Below w.heap.size w w' := by
  have EQ : Hd (∀ W, Below w.heap.size w W → Calls Tryd.prog 19 #[.slice a e.g.length c1, .slice b e.g.length c2] W fun q w' => q = .returned (.bool true) ∧ Below W.heap.size W w') := ⟨fun W hb => by
    have := rsamel_ok a b c1 c2 e.g e.g W (h1.carry hb) (h2.carry hb) hn
    rwa [decide_eq_true (show e.g = e.g from rfl)] at this⟩
  clear h1 h2 hn
  unfold evV evA
  obtain ⟨ek, ei, en, eu, eg, ev, er, es, eo, et⟩ := e
  simp only at *
  generalize eg.length = m at *
  obtain ⟨w1, hw1⟩ : ∃ w1, w1 = (w.alloc (.cells #[.int .i64 ek, .int .i64 ei, .int .i64 en, .string eu, .slice a m c1, .string ev, .string er, .string es, .int .i64 eo, .string et] 26)).alloc (.cells #[.int .i64 ek, .int .i64 ei, .int .i64 en, .string eu, .slice b m c2, .string ev, .string er, .string es, .int .i64 eo, .string et] 26) := ⟨_, rfl⟩
  obtain ⟨b1, n1, n2⟩ := boxes w 26 26 #[.int .i64 ek, .int .i64 ei, .int .i64 en, .string eu, .slice a m c1, .string ev, .string er, .string es, .int .i64 eo, .string et] #[.int .i64 ek, .int .i64 ei, .int .i64 en, .string eu, .slice b m c2, .string ev, .string er, .string es, .int .i64 eo, .string et]
  rw [← hw1] at b1 n1 n2
  have hsz : (w.alloc (.cells #[.int .i64 ek, .int .i64 ei, .int .i64 en, .string eu, .slice a m c1, .string ev, .string er, .string es, .int .i64 eo, .string et] 26)).heap.size = w.heap.size + 1 := by simp
  have X : Hd (∀ W, Below w1.heap.size w1 W → Blk W w.heap.size 26 #[.int .i64 ek, .int .i64 ei, .int .i64 en, .string eu, .slice a m c1, .string ev, .string er, .string es, .int .i64 eo, .string et] ∧ Blk W (w.heap.size + 1) 26 #[.int .i64 ek, .int .i64 ei, .int .i64 en, .string eu, .slice b m c2, .string ev, .string er, .string es, .int .i64 eo, .string et]) := ⟨fun W b => ⟨n1.kept (Kept.of_below b (fun _ => False)) id, n2.kept (Kept.of_below b (fun _ => False)) id⟩⟩
  have HB : Hd (∀ W, Below w1.heap.size w1 W → Below w.heap.size w W) := ⟨fun W b => b1.trans (b.mono b1.size)⟩
  clear b1 n1 n2
  generalize hg : w.heap.size = g at *
  have HG := Hd.mk hg
  go_enter Tryd.func10, Tryd.ntmps10
  go_upto_region 1 with fail
  rw [← hw1]
  clear hw1 hsz
  have B3 : Below w1.heap.size w1 w1.drew := (Below.refl _ _).drew
  refine AnyG.start (T := fun W => Below w1.heap.size w1 W) (U := fun _ => True) (j0 := 100) (by kernel_rfl) ?_
  generalize w1.drew = w3 at *
  refine .tq 0 7 B3 ?_; simp only [tkA, tkB, tkC]
  refine .tq 1 8 B3 ?_ (hy := fun w hSw => by obtain ⟨⟨_, _, _, s3, s4, s5, s6, s7, s8, _⟩, -⟩ := (X.out w hSw).1.ten; go_simp; rfl); simp only [tkA, tkB, tkC]
  refine .tq 2 9 B3 ?_; simp only [tkA, tkB, tkC]
  refine .tq 3 10 B3 ?_ (hy := fun w hSw => by obtain ⟨⟨_, _, _, s3, s4, s5, s6, s7, s8, _⟩, -⟩ := (X.out w hSw).2.ten; go_simp; rfl); simp only [tkA, tkB, tkC]
  refine AnyG.ready (rs := [4, 5]) (by kernel_rfl) (by simp) ?_
  refine AllG.cons rfl (fun K hK => ?_) (AllG.cons rfl (fun K hK => ?_) AllG.nil)
  case refine_1 =>
    go_simp
    have C1 : Below w1.heap.size w1 (w3.alloc (.cells #[.string ⟨#[]⟩, .slice none 0 0, .string ⟨#[]⟩, .string ⟨#[]⟩, .string ⟨#[]⟩, .int .i64 0] 24)) := B3.trans ((alloc_below _ _).mono B3.size)
    refine hK.out _ _ ⟨C1, fun _ => trivial⟩ ?_
    clear hK K
    refine AnyG.ready (rs := [5]) (by kernel_rfl) (by simp) ?_
    refine AllG.cons rfl (fun K hK => ?_) AllG.nil
    go_simp
    obtain ⟨b4, m5, m6⟩ := boxes w3 24 24 #[.string ⟨#[]⟩, .slice none 0 0, .string ⟨#[]⟩, .string ⟨#[]⟩, .string ⟨#[]⟩, .int .i64 0] #[.string ⟨#[]⟩, .slice none 0 0, .string ⟨#[]⟩, .string ⟨#[]⟩, .string ⟨#[]⟩, .int .i64 0]
    obtain ⟨w4, hw4⟩ : ∃ w4, w4 = (w3.alloc (.cells #[.string ⟨#[]⟩, .slice none 0 0, .string ⟨#[]⟩, .string ⟨#[]⟩, .string ⟨#[]⟩, .int .i64 0] 24)).alloc (.cells #[.string ⟨#[]⟩, .slice none 0 0, .string ⟨#[]⟩, .string ⟨#[]⟩, .string ⟨#[]⟩, .int .i64 0] 24) := ⟨_, rfl⟩
    rw [← hw4] at b4 m5 m6
    have C2 : Below w1.heap.size w1 w4 := B3.trans (b4.mono B3.size)
    rw [← hw4]
    refine hK.out _ _ ⟨C2, fun _ => trivial⟩ ?_
    have HH : Hd (w1.heap.size ≤ w3.heap.size) := ⟨B3.size⟩
    clear hK K hw4 C1 b4 B3
    generalize w3.heap.size = h at *
    refine AnyG.ready (rs := [6]) (by kernel_rfl) (by simp) ?_
    refine AllG.cons rfl (fun K hK => ?_) AllG.nil
    have f0 := m5.frozen 0; have f1 := m5.frozen 1; have f2 := m5.frozen 2; have f3 := m5.frozen 3; have f4 := m5.frozen 4; have f5 := m5.frozen 5
    have r0 := m5.cellv 0 rfl; have r1 := m5.cellv 1 rfl; have r2 := m5.cellv 2 rfl; have r3 := m5.cellv 3 rfl; have r4 := m5.cellv 4 rfl; have r5 := m5.cellv 5 rfl
    go_simp
    obtain ⟨z1, z2⟩ := six_set (v0 := .string eu) (v1 := .slice a m c1) (v2 := .string ev) (v3 := .string er) (v4 := .string es) (v5 := .int .i64 eo) m5
    have z3 := m6.kept z2 (fun h' : h + 1 = h => by omega)
    have C3 := C2.trans (z2.below (B := w1.heap.size) C2.size (fun j (hj : j = h) => by have := HH.out; omega))
    refine hK.out _ _ ⟨C3, fun _ => trivial⟩ ?_
    clear hK K f0 f1 f2 f3 f4 f5 r0 r1 r2 r3 r4 r5 z2 m5 m6 C2
    revert z1 z3 C3
    generalize World.setCell _ _ _ = w5
    intro z1 z3 C3
    refine AnyG.ready (rs := [7]) (by kernel_rfl) (by simp) ?_
    refine AllG.cons rfl (fun K hK => ?_) AllG.nil
    have f0 := z3.frozen 0; have f1 := z3.frozen 1; have f2 := z3.frozen 2; have f3 := z3.frozen 3; have f4 := z3.frozen 4; have f5 := z3.frozen 5
    have r0 := z3.cellv 0 rfl; have r1 := z3.cellv 1 rfl; have r2 := z3.cellv 2 rfl; have r3 := z3.cellv 3 rfl; have r4 := z3.cellv 4 rfl; have r5 := z3.cellv 5 rfl
    go_simp
    obtain ⟨y1, y2⟩ := six_set (v0 := .string eu) (v1 := .slice b m c2) (v2 := .string ev) (v3 := .string er) (v4 := .string es) (v5 := .int .i64 eo) z3
    have y3 := z1.kept y2 (fun h' : h = h + 1 => by omega)
    have C4 := C3.trans (y2.below (B := w1.heap.size) C3.size (fun j (hj : j = h + 1) => by have := HH.out; omega))
    refine hK.out _ _ ⟨C4, fun _ => trivial⟩ ?_
    clear hK K f0 f1 f2 f3 f4 f5 r0 r1 r2 r3 r4 r5 y2 z1 z3 C3
    revert y1 y3 C4
    generalize World.setCell _ _ _ = w6
    intro y1 y3 C4
    refine AnyG.done (by kernel_rfl) ?_ _
    obtain ⟨⟨p0, p1, p2, p3, p4, p5, p6, p7, p8, p9⟩, -⟩ := (X.out w6 C4).1.ten
    obtain ⟨⟨s0, s1, s2, s3, s4, s5, s6, s7, s8, s9⟩, -⟩ := (X.out w6 C4).2.ten
    have t0 := y3.cellv 0 rfl; have t1 := y3.cellv 1 rfl; have t2 := y3.cellv 2 rfl; have t3 := y3.cellv 3 rfl; have t4 := y3.cellv 4 rfl; have t5 := y3.cellv 5 rfl
    have u0 := y1.cellv 0 rfl; have u1 := y1.cellv 1 rfl; have u2 := y1.cellv 2 rfl; have u3 := y1.cellv 3 rfl; have u4 := y1.cellv 4 rfl; have u5 := y1.cellv 5 rfl
    have D4 := Hd.mk C4
    have EE : Hd (Calls Tryd.prog 19 #[.slice a m c1, .slice b m c2] w6 fun q w' => q = .returned (.bool true) ∧ Below w6.heap.size w6 w') := ⟨EQ.out w6 (by first | exact HB.out w6 C4 | (rw [HG.out]; exact HB.out w6 C4))⟩
    clear C4 y1 y3 HH
    go_wp2_with (go_at_call 19; refine EE.out.mono ?_; rintro e w7 ⟨rfl, b7⟩)
    go_ret
    exact ⟨rfl, by first | exact HB.out _ (D4.out.trans (b7.mono D4.out.size)) | (rw [HG.out]; exact HB.out _ (D4.out.trans (b7.mono D4.out.size)))⟩
  case refine_2 =>
    go_simp
    have C1 : Below w1.heap.size w1 (w3.alloc (.cells #[.string ⟨#[]⟩, .slice none 0 0, .string ⟨#[]⟩, .string ⟨#[]⟩, .string ⟨#[]⟩, .int .i64 0] 24)) := B3.trans ((alloc_below _ _).mono B3.size)
    refine hK.out _ _ ⟨C1, fun _ => trivial⟩ ?_
    clear hK K
    refine AnyG.ready (rs := [4]) (by kernel_rfl) (by simp) ?_
    refine AllG.cons rfl (fun K hK => ?_) AllG.nil
    go_simp
    obtain ⟨b4, m5, m6⟩ := boxes w3 24 24 #[.string ⟨#[]⟩, .slice none 0 0, .string ⟨#[]⟩, .string ⟨#[]⟩, .string ⟨#[]⟩, .int .i64 0] #[.string ⟨#[]⟩, .slice none 0 0, .string ⟨#[]⟩, .string ⟨#[]⟩, .string ⟨#[]⟩, .int .i64 0]
    obtain ⟨w4, hw4⟩ : ∃ w4, w4 = (w3.alloc (.cells #[.string ⟨#[]⟩, .slice none 0 0, .string ⟨#[]⟩, .string ⟨#[]⟩, .string ⟨#[]⟩, .int .i64 0] 24)).alloc (.cells #[.string ⟨#[]⟩, .slice none 0 0, .string ⟨#[]⟩, .string ⟨#[]⟩, .string ⟨#[]⟩, .int .i64 0] 24) := ⟨_, rfl⟩
    rw [← hw4] at b4 m5 m6
    have C2 : Below w1.heap.size w1 w4 := B3.trans (b4.mono B3.size)
    rw [← hw4]
    refine hK.out _ _ ⟨C2, fun _ => trivial⟩ ?_
    have HH : Hd (w1.heap.size ≤ w3.heap.size) := ⟨B3.size⟩
    clear hK K hw4 C1 b4 B3
    generalize w3.heap.size = h at *
    refine AnyG.ready (rs := [6]) (by kernel_rfl) (by simp) ?_
    refine AllG.cons rfl (fun K hK => ?_) AllG.nil
    have f0 := m6.frozen 0; have f1 := m6.frozen 1; have f2 := m6.frozen 2; have f3 := m6.frozen 3; have f4 := m6.frozen 4; have f5 := m6.frozen 5
    have r0 := m6.cellv 0 rfl; have r1 := m6.cellv 1 rfl; have r2 := m6.cellv 2 rfl; have r3 := m6.cellv 3 rfl; have r4 := m6.cellv 4 rfl; have r5 := m6.cellv 5 rfl
    go_simp
    obtain ⟨z1, z2⟩ := six_set (v0 := .string eu) (v1 := .slice a m c1) (v2 := .string ev) (v3 := .string er) (v4 := .string es) (v5 := .int .i64 eo) m6
    have z3 := m5.kept z2 (fun h' : h = h + 1 => by omega)
    have C3 := C2.trans (z2.below (B := w1.heap.size) C2.size (fun j (hj : j = h + 1) => by have := HH.out; omega))
    refine hK.out _ _ ⟨C3, fun _ => trivial⟩ ?_
    clear hK K f0 f1 f2 f3 f4 f5 r0 r1 r2 r3 r4 r5 z2 m5 m6 C2
    revert z1 z3 C3
    generalize World.setCell _ _ _ = w5
    intro z1 z3 C3
    refine AnyG.ready (rs := [7]) (by kernel_rfl) (by simp) ?_
    refine AllG.cons rfl (fun K hK => ?_) AllG.nil
    have f0 := z3.frozen 0; have f1 := z3.frozen 1; have f2 := z3.frozen 2; have f3 := z3.frozen 3; have f4 := z3.frozen 4; have f5 := z3.frozen 5
    have r0 := z3.cellv 0 rfl; have r1 := z3.cellv 1 rfl; have r2 := z3.cellv 2 rfl; have r3 := z3.cellv 3 rfl; have r4 := z3.cellv 4 rfl; have r5 := z3.cellv 5 rfl
    go_simp
    obtain ⟨y1, y2⟩ := six_set (v0 := .string eu) (v1 := .slice b m c2) (v2 := .string ev) (v3 := .string er) (v4 := .string es) (v5 := .int .i64 eo) z3
    have y3 := z1.kept y2 (fun h' : h + 1 = h => by omega)
    have C4 := C3.trans (y2.below (B := w1.heap.size) C3.size (fun j (hj : j = h) => by have := HH.out; omega))
    refine hK.out _ _ ⟨C4, fun _ => trivial⟩ ?_
    clear hK K f0 f1 f2 f3 f4 f5 r0 r1 r2 r3 r4 r5 y2 z1 z3 C3
    revert y1 y3 C4
    generalize World.setCell _ _ _ = w6
    intro y1 y3 C4
    refine AnyG.done (by kernel_rfl) ?_ _
    obtain ⟨⟨p0, p1, p2, p3, p4, p5, p6, p7, p8, p9⟩, -⟩ := (X.out w6 C4).1.ten
    obtain ⟨⟨s0, s1, s2, s3, s4, s5, s6, s7, s8, s9⟩, -⟩ := (X.out w6 C4).2.ten
    have t0 := y3.cellv 0 rfl; have t1 := y3.cellv 1 rfl; have t2 := y3.cellv 2 rfl; have t3 := y3.cellv 3 rfl; have t4 := y3.cellv 4 rfl; have t5 := y3.cellv 5 rfl
    have u0 := y1.cellv 0 rfl; have u1 := y1.cellv 1 rfl; have u2 := y1.cellv 2 rfl; have u3 := y1.cellv 3 rfl; have u4 := y1.cellv 4 rfl; have u5 := y1.cellv 5 rfl
    have D4 := Hd.mk C4
    have EE : Hd (Calls Tryd.prog 19 #[.slice a m c1, .slice b m c2] w6 fun q w' => q = .returned (.bool true) ∧ Below w6.heap.size w6 w') := ⟨EQ.out w6 (by first | exact HB.out w6 C4 | (rw [HG.out]; exact HB.out w6 C4))⟩
    clear C4 y1 y3 HH
    go_wp2_with (go_at_call 19; refine EE.out.mono ?_; rintro e w7 ⟨rfl, b7⟩)
    go_ret
    exact ⟨rfl, by first | exact HB.out _ (D4.out.trans (b7.mono D4.out.size)) | (rw [HG.out]; exact HB.out _ (D4.out.trans (b7.mono D4.out.size)))⟩
end Go.Proofs.YtooaojegdhamjaaDoor
