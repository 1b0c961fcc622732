/-
  What is filled, as functions; whether a level or a schema of a name is there; the rule of anything.
-/
import Derived.Test.YtijjpblmnlednaaGreatDoorE20
import Derived.Test.YtijjpblmnlednaaGreatDoorE15
import Derived.Test.YtijjpblmnlednaaGreatDoorE21
namespace Go.Proofs.YtijjpblmnlednaaGreatDoor
open Go.RowKit
theorem orU_ok (x u : Int) (w : World) : Calls Tryz.prog 25 #[.int .i64 x, .int .i64 u] w fun e w' => e = .returned (.int .i64 (orU x u)) ∧ w' = w := by
  by_cases h : x = 0
  · have e : orU x u = u := if_pos h
    rw [e]
    clear e
    subst h
    go_enter Tryz.func25, Tryz.ntmps25
    go_wp2_with fail
    go_ret
    exact ⟨rfl, rfl⟩
  · have e : orU x u = x := if_neg h
    rw [e]
    clear e
    go_enter Tryz.func25, Tryz.ntmps25
    go_wp2_with fail
    go_ret
    exact ⟨rfl, rfl⟩
theorem hasLv_ok (a : Option Addr) (c : Nat) (L : List Lv) (x : ByteArray) (w : World) (hr : LvR w a L) (hl : L.length ≤ 65536) :
    Calls Tryz.prog 53 #[.slice a L.length c, .string x] w fun e w' => e = .returned (.bool (anyL L x)) ∧ Below w.heap.size w w' := by
  have AL := alloc_below w (.cells #[.string x] 9)
  have P := phasLvF a c L w.heap.size x (w.alloc (.cells #[.string x] 9)) ((Blk.new w 9 #[.string x]).cellv 0 rfl) (hr.carry AL) hl
  have BB : Hd (Below w.heap.size w (w.alloc (.cells #[.string x] 9))) := ⟨AL⟩
  unfold anyL
  clear AL hr
  generalize (L.any fun l => decide (l.name = x)) = b at *
  generalize L.length = m at *
  go_enter Tryz.func53, Tryz.ntmps53
  go_wp2_with (go_at_call 99; refine P.mono ?_; rintro e w' ⟨rfl, hb⟩)
  go_ret
  exact ⟨rfl, BB.out.trans (hb.mono BB.out.size)⟩
theorem hasSc_ok (a : Option Addr) (c : Nat) (L : List Sc) (V : List Value) (x : ByteArray) (w : World) (hr : ScR w a L V) (hV : V.length = L.length) (hl : L.length ≤ 65536) :
    Calls Tryz.prog 56 #[.slice a L.length c, .string x] w fun e w' => e = .returned (.bool (anyS L x)) ∧ Below w.heap.size w w' := by
  have AL := alloc_below w (.cells #[.string x] 9)
  have P := phasScF a c L V w.heap.size x (w.alloc (.cells #[.string x] 9)) ((Blk.new w 9 #[.string x]).cellv 0 rfl) (hr.carry AL) hV hl
  have BB : Hd (Below w.heap.size w (w.alloc (.cells #[.string x] 9))) := ⟨AL⟩
  unfold anyS
  clear AL hr hV
  generalize (L.any fun l => decide (l.name = x)) = b at *
  generalize L.length = m at *
  go_enter Tryz.func56, Tryz.ntmps56
  go_wp2_with (go_at_call 103; refine P.mono ?_; rintro e w' ⟨rfl, hb⟩)
  go_ret
  exact ⟨rfl, BB.out.trans (hb.mono BB.out.size)⟩

theorem res33 (tmps : Array Value) (w : World) (r0 : Nat) (v0 v1 v2 v3 v4 : Value) (ht : tmps[0]?.getD undef = .pointer (some ⟨r0, 0, none⟩)) (h : Blk w r0 50 #[v0, v1, v2, v3, v4]) :
    (results Tryz.f105 tmps).run Tryz.prog w = .ok (.agg #[v0, v1, v2, v3, v4]) w := by
  have c0 := h.cellv 0 rfl
  have c1 := h.cellv 1 rfl
  have c2 := h.cellv 2 rfl
  have c3 := h.cellv 3 rfl
  have c4 := h.cellv 4 rfl
  simp at c0 c1 c2 c3 c4
  simp [results, Tryz.results105, go_sem, ht, c0, c1, c2, c3, c4]
theorem own_one {B : Nat} {w : World} {g : Nat} {x : ByteArray} (h : Blk w g 9 #[.string x]) (hB : B ≤ g) : OwnT B w (.slice (some ⟨g, 0, none⟩) 1 1) [x] :=
  ⟨rfl, .inr ⟨g, 1, _, rfl, hB, h, Nat.le_refl _, by unfold maxLen; omega, rfl, rfl⟩⟩
theorem own_nil (B : Nat) (w : World) : OwnT B w (.slice none 0 0) [] := ⟨rfl, .inl ⟨rfl, rfl⟩⟩
/-- A rule of anything. -/
structure Any3 (w : World) (e : Ending) (w' : World) : Prop where
  ex : ∃ g1 g2 g3, e = .returned (.agg #[.slice none 0 0, .slice none 0 0, .slice (some ⟨g1, 0, none⟩) 1 1, .slice (some ⟨g2, 0, none⟩) 1 1, .slice (some ⟨g3, 0, none⟩) 1 1]) ∧ (Blk w' g1 9 #[.string tStar] ∧ Blk w' g2 9 #[.string tStar] ∧ Blk w' g3 9 #[.string tStar]) ∧ w.heap.size ≤ g1 ∧ w.heap.size ≤ g2 ∧ w.heap.size ≤ g3
  bel : Below w.heap.size w w'
theorem any3_mem (w : World) (cs a b c : Array Value) : Blk ((((w.alloc (.cells cs 50)).alloc (.cells a 9)).alloc (.cells b 9)).alloc (.cells c 9)) w.heap.size 50 cs
    ∧ Blk ((((w.alloc (.cells cs 50)).alloc (.cells a 9)).alloc (.cells b 9)).alloc (.cells c 9)) (w.heap.size + 1) 9 a
    ∧ Blk ((((w.alloc (.cells cs 50)).alloc (.cells a 9)).alloc (.cells b 9)).alloc (.cells c 9)) (w.heap.size + 1 + 1) 9 b
    ∧ Blk ((((w.alloc (.cells cs 50)).alloc (.cells a 9)).alloc (.cells b 9)).alloc (.cells c 9)) (w.heap.size + 1 + 1 + 1) 9 c
    ∧ Below w.heap.size w ((((w.alloc (.cells cs 50)).alloc (.cells a 9)).alloc (.cells b 9)).alloc (.cells c 9)) := by
  refine ⟨(((Blk.new w 50 cs).alloc _).alloc _).alloc _, ((alloc_new w _ 9 a).alloc _).alloc _, Blk.alloc ?_ _, ?_, ((((Below.refl _ _).alloc (Nat.le_refl _) _).alloc (by simp) _).alloc (by simp; omega) _).alloc (by simp; omega) _⟩
  · have := alloc_new (w.alloc (.cells cs 50)) (.cells a 9) 9 b
    simpa using this
  · have := alloc_new ((w.alloc (.cells cs 50)).alloc (.cells a 9)) (.cells b 9) 9 c
    simpa using this
theorem any3_ok (w : World) : Calls Tryz.prog 105 #[] w fun e w' => Any3 w e w' := by
  obtain ⟨m0, n1, n2, n3, B3⟩ := any3_mem w #[.slice none 0 0, .slice none 0 0, .slice (some ⟨w.heap.size + 1, 0, none⟩) 1 1, .slice (some ⟨w.heap.size + 1 + 1, 0, none⟩) 1 1, .slice (some ⟨w.heap.size + 1 + 1 + 1, 0, none⟩) 1 1] #[.string ⟨#[42]⟩] #[.string ⟨#[42]⟩] #[.string ⟨#[42]⟩]
  have F : Hd _ := ⟨And.intro m0 (And.intro n1 (And.intro n2 (And.intro n3 B3)))⟩
  clear m0 n1 n2 n3 B3
  go_enter Tryz.func105, Tryz.ntmps105
  go_wp2_with fail
  exact bodyPost_ret (res33 _ _ w.heap.size _ _ _ _ _ rfl F.out.1) rfl ⟨⟨_, _, _, rfl, ⟨F.out.2.1, F.out.2.2.1, F.out.2.2.2.1⟩, by omega, by omega, by omega⟩, F.out.2.2.2.2⟩

/-- One more schema. -/
structure Sx (w : World) (s : Sc) (e : Ending) (w' : World) : Prop where
  ex : ∃ v', e = .returned (scV s v') ∧ RlW w.heap.size w' v' s.rules
  bel : Below w.heap.size w w'
theorem res24 (tmps : Array Value) (w : World) (r0 : Nat) (v0 v1 v2 v3 v4 : Value) (ht : tmps[0]?.getD undef = .pointer (some ⟨r0, 0, none⟩)) (h : Blk w r0 53 #[v0, v1, v2, v3, v4]) :
    (results Tryz.f57 tmps).run Tryz.prog w = .ok (.agg #[v0, v1, v2, v3, v4]) w := by
  have c0 := h.cellv 0 rfl
  have c1 := h.cellv 1 rfl
  have c2 := h.cellv 2 rfl
  have c3 := h.cellv 3 rfl
  have c4 := h.cellv 4 rfl
  simp at c0 c1 c2 c3 c4
  simp [results, Tryz.results57, go_sem, ht, c0, c1, c2, c3, c4]
/-- How the new schema's memory comes to lie: behind the rule of anything. -/
theorem sx_mem {w1 : World} {g0 : Nat} {z0 z1 z2 z3 z4 : Value} (NB : Blk w1 g0 53 #[z0, z1, z2, z3, z4]) (v0 v1 v2 v3 : Value) (q r : Array Value) (m : Array Value) :
    (∀ W, W = ((w1.alloc (.cells r 50)).alloc (.cells m 9)).alloc (.cells q 50) →
    Blk (((((W.setCell ⟨g0, 0, none⟩ v0).setCell ⟨g0, 1, none⟩ v1).setCell ⟨g0, 2, none⟩ v2).setCell ⟨g0, 3, none⟩ v3).setCell ⟨g0, 4, none⟩ (.slice (some ⟨w1.heap.size + 1 + 1, 0, none⟩) 1 1)) g0 53 #[v0, v1, v2, v3, .slice (some ⟨w1.heap.size + 1 + 1, 0, none⟩) 1 1]
    ∧ Kept (fun k => k = g0) w1 (((((W.setCell ⟨g0, 0, none⟩ v0).setCell ⟨g0, 1, none⟩ v1).setCell ⟨g0, 2, none⟩ v2).setCell ⟨g0, 3, none⟩ v3).setCell ⟨g0, 4, none⟩ (.slice (some ⟨w1.heap.size + 1 + 1, 0, none⟩) 1 1))
    ∧ Blk (((((W.setCell ⟨g0, 0, none⟩ v0).setCell ⟨g0, 1, none⟩ v1).setCell ⟨g0, 2, none⟩ v2).setCell ⟨g0, 3, none⟩ v3).setCell ⟨g0, 4, none⟩ (.slice (some ⟨w1.heap.size + 1 + 1, 0, none⟩) 1 1)) (w1.heap.size + 1) 9 m
    ∧ Blk (((((W.setCell ⟨g0, 0, none⟩ v0).setCell ⟨g0, 1, none⟩ v1).setCell ⟨g0, 2, none⟩ v2).setCell ⟨g0, 3, none⟩ v3).setCell ⟨g0, 4, none⟩ (.slice (some ⟨w1.heap.size + 1 + 1, 0, none⟩) 1 1)) (w1.heap.size + 1 + 1) 50 q) := by
  rintro W rfl
  have hlt := NB.lt
  have B0 := ((NB.alloc (.cells r 50)).alloc (.cells m 9)).alloc (.cells q 50)
  have B1 : Blk (((w1.alloc (.cells r 50)).alloc (.cells m 9)).alloc (.cells q 50)) (w1.heap.size + 1) 9 m := (alloc_new w1 _ 9 m).alloc _
  have B2 : Blk (((w1.alloc (.cells r 50)).alloc (.cells m 9)).alloc (.cells q 50)) (w1.heap.size + 1 + 1) 50 q := by
    have := alloc_new (w1.alloc (.cells r 50)) (.cells m 9) 50 q
    simpa using this
  have K0 : Kept (fun k => k = g0) w1 (((w1.alloc (.cells r 50)).alloc (.cells m 9)).alloc (.cells q 50)) := (((Kept.refl _ w1).alloc _).alloc _).alloc _
  refine ⟨?_, ((((K0.setCell _ _ (.inl rfl)).setCell _ _ (.inl rfl)).setCell _ _ (.inl rfl)).setCell _ _ (.inl rfl)).setCell _ _ (.inl rfl), ?_, ?_⟩
  · have := ((((B0.set 0 v0).set 1 v1).set 2 v2).set 3 v3).set 4 (.slice (some ⟨w1.heap.size + 1 + 1, 0, none⟩) 1 1)
    simpa using this
  · exact ((((B1.other (by simp; omega) _).other (by simp; omega) _).other (by simp; omega) _).other (by simp; omega) _).other (by simp; omega) _
  · exact ((((B2.other (by simp; omega) _).other (by simp; omega) _).other (by simp; omega) _).other (by simp; omega) _).other (by simp; omega) _
theorem one_rl {B : Nat} {w : World} {g : Nat} {q : Q5} {r : Rl} (h : Blk w g 50 #[q.v0, q.v1, q.v2, q.v3, q.v4]) (hB : B ≤ g) (hr : RuW B w q r) : RlW B w (.slice (some ⟨g, 0, none⟩) 1 1) [r] :=
  ⟨[q], rfl, ⟨rfl, .inr ⟨g, 1, _, rfl, hB, h, Nat.le_refl _, by unfold maxLen; omega, rfl, rfl⟩⟩, fun k hk hk' => by
    obtain rfl : k = 0 := by simpa using hk
    exact hr⟩
set_option maxRecDepth 20000 in
theorem scX_ok (w : World) : Calls Tryz.prog 57 #[] w fun e w' => Sx w scX e w' := by
  have NB := Blk.new w 53 #[.string ⟨#[]⟩, .string ⟨#[]⟩, .int .i64 0, .int .i64 0, .slice none 0 0]
  have AL : Hd _ := ⟨alloc_below w (.cells #[.string ⟨#[]⟩, .string ⟨#[]⟩, .int .i64 0, .int .i64 0, .slice none 0 0] 53)⟩
  have A3 := any3_ok (w.alloc (.cells #[.string ⟨#[]⟩, .string ⟨#[]⟩, .int .i64 0, .int .i64 0, .slice none 0 0] 53))
  obtain ⟨g0, hg0⟩ : ∃ g0, g0 = w.heap.size := ⟨_, rfl⟩
  rw [← hg0] at NB
  go_enter Tryz.func57, Tryz.ntmps57
  go_wp2_with fail
  go_at_call 105
  refine A3.mono ?_
  rintro e w1 ⟨⟨g1, g2, g3, rfl, ⟨b1, b2, b3⟩, l1, l2, l3⟩, bel⟩
  have N1 := NB.kept (Kept.of_below bel (fun _ => False)) id
  rw [← hg0]
  have M : Hd _ := ⟨sx_mem N1 (.string ⟨#[101, 120, 101, 109, 112, 116]⟩) (.string ⟨#[101, 120, 101, 109, 112, 116]⟩) (.int .i64 1) (.int .i64 0) #[.slice none 0 0, .slice (some ⟨w1.heap.size + 1, 0, none⟩) 1 1, .slice (some ⟨g1, 0, none⟩) 1 1, .slice (some ⟨g2, 0, none⟩) 1 1, .slice (some ⟨g3, 0, none⟩) 1 1] #[.slice none 0 0, .slice (some ⟨w1.heap.size + 1, 0, none⟩) 1 1, .slice (some ⟨g1, 0, none⟩) 1 1, .slice (some ⟨g2, 0, none⟩) 1 1, .slice (some ⟨g3, 0, none⟩) 1 1] #[.string ⟨#[115, 121, 115, 116, 101, 109, 58, 109, 97, 115, 116, 101, 114, 115]⟩] _ rfl⟩
  have N2 := ((N1.alloc (.cells #[.slice none 0 0, .slice (some ⟨w1.heap.size + 1, 0, none⟩) 1 1, .slice (some ⟨g1, 0, none⟩) 1 1, .slice (some ⟨g2, 0, none⟩) 1 1, .slice (some ⟨g3, 0, none⟩) 1 1] 50)).alloc (.cells #[.string ⟨#[115, 121, 115, 116, 101, 109, 58, 109, 97, 115, 116, 101, 114, 115]⟩] 9)).alloc (.cells #[.slice none 0 0, .slice (some ⟨w1.heap.size + 1, 0, none⟩) 1 1, .slice (some ⟨g1, 0, none⟩) 1 1, .slice (some ⟨g2, 0, none⟩) 1 1, .slice (some ⟨g3, 0, none⟩) 1 1] 50)
  have HB : Hd _ := ⟨And.intro b1 (And.intro b2 b3)⟩
  have HN : Hd _ := ⟨N1⟩
  have HL : Hd (w.heap.size + 1 ≤ g1 ∧ w.heap.size + 1 ≤ g2 ∧ w.heap.size + 1 ≤ g3) := ⟨by simpa using l1, by simpa using l2, by simpa using l3⟩
  have HG : Hd (g0 = w.heap.size ∧ Below w.heap.size w w1) := ⟨hg0, AL.out.trans (bel.mono AL.out.size)⟩
  have hlt := N1.lt
  have f0 := N2.frozen 0
  have f1 := N2.frozen 1
  have f2 := N2.frozen 2
  have f3 := N2.frozen 3
  have f4 := N2.frozen 4
  have d0 := N2.cellv (v := .string ⟨#[]⟩) 0 rfl
  have d1 := N2.cellv (v := .string ⟨#[]⟩) 1 rfl
  have d2 := N2.cellv (v := .int .i64 0) 2 rfl
  have d3 := N2.cellv (v := .int .i64 0) 3 rfl
  have d4 := N2.cellv (v := .slice none 0 0) 4 rfl
  clear b1 b2 b3 l1 l2 l3 bel A3 NB N1 N2 AL hg0
  go_wp2_with fail
  obtain ⟨m0, k0, m1, m2⟩ := M.out
  clear d0 d1 d2 d3 d4 f0 f1 f2 f3 f4
  have o9 := off_blk HN.out (by decide : 53 ≠ 9)
  have hsz : w.heap.size ≤ w1.heap.size := HG.out.2.size
  have e1 := own_one (B := w.heap.size) (HB.out.1.kept k0 (o9 _ _ HB.out.1)) (by have := HL.out; omega)
  have e2 := own_one (B := w.heap.size) (HB.out.2.1.kept k0 (o9 _ _ HB.out.2.1)) (by have := HL.out; omega)
  have e3 := own_one (B := w.heap.size) (HB.out.2.2.kept k0 (o9 _ _ HB.out.2.2)) (by have := HL.out; omega)
  have em := own_one (B := w.heap.size) m1 (by omega)
  refine bodyPost_ret (res24 _ _ g0 _ _ _ _ _ rfl m0) rfl ⟨⟨_, rfl, one_rl (q := ⟨.slice none 0 0, .slice (some ⟨w1.heap.size + 1, 0, none⟩) 1 1, .slice (some ⟨g1, 0, none⟩) 1 1, .slice (some ⟨g2, 0, none⟩) 1 1, .slice (some ⟨g3, 0, none⟩) 1 1⟩) (B := w.heap.size) m2 (by omega) ⟨own_nil _ _, em, e1, e2, e3⟩⟩, ?_⟩
  exact HG.out.2.trans (k0.below hsz (fun k hk => by rw [hk, HG.out.1]; exact Nat.le_refl _))
theorem res25 (tmps : Array Value) (w : World) (r0 : Nat) (v0 v1 v2 v3 v4 : Value) (ht : tmps[0]?.getD undef = .pointer (some ⟨r0, 0, none⟩)) (h : Blk w r0 53 #[v0, v1, v2, v3, v4]) :
    (results Tryz.f58 tmps).run Tryz.prog w = .ok (.agg #[v0, v1, v2, v3, v4]) w := by
  have c0 := h.cellv 0 rfl
  have c1 := h.cellv 1 rfl
  have c2 := h.cellv 2 rfl
  have c3 := h.cellv 3 rfl
  have c4 := h.cellv 4 rfl
  simp at c0 c1 c2 c3 c4
  simp [results, Tryz.results58, go_sem, ht, c0, c1, c2, c3, c4]
set_option maxRecDepth 20000 in
theorem scY_ok (w : World) : Calls Tryz.prog 58 #[] w fun e w' => Sx w scY e w' := by
  have NB := Blk.new w 53 #[.string ⟨#[]⟩, .string ⟨#[]⟩, .int .i64 0, .int .i64 0, .slice none 0 0]
  have AL : Hd _ := ⟨alloc_below w (.cells #[.string ⟨#[]⟩, .string ⟨#[]⟩, .int .i64 0, .int .i64 0, .slice none 0 0] 53)⟩
  have A3 := any3_ok (w.alloc (.cells #[.string ⟨#[]⟩, .string ⟨#[]⟩, .int .i64 0, .int .i64 0, .slice none 0 0] 53))
  obtain ⟨g0, hg0⟩ : ∃ g0, g0 = w.heap.size := ⟨_, rfl⟩
  rw [← hg0] at NB
  go_enter Tryz.func58, Tryz.ntmps58
  go_wp2_with fail
  go_at_call 105
  refine A3.mono ?_
  rintro e w1 ⟨⟨g1, g2, g3, rfl, ⟨b1, b2, b3⟩, l1, l2, l3⟩, bel⟩
  have N1 := NB.kept (Kept.of_below bel (fun _ => False)) id
  rw [← hg0]
  have M : Hd _ := ⟨sx_mem N1 (.string ⟨#[99, 97, 116, 99, 104, 45, 97, 108, 108]⟩) (.string ⟨#[99, 97, 116, 99, 104, 45, 97, 108, 108]⟩) (.int .i64 10000) (.int .i64 1) #[.slice (some ⟨w1.heap.size + 1, 0, none⟩) 1 1, .slice none 0 0, .slice (some ⟨g1, 0, none⟩) 1 1, .slice (some ⟨g2, 0, none⟩) 1 1, .slice (some ⟨g3, 0, none⟩) 1 1] #[.slice (some ⟨w1.heap.size + 1, 0, none⟩) 1 1, .slice none 0 0, .slice (some ⟨g1, 0, none⟩) 1 1, .slice (some ⟨g2, 0, none⟩) 1 1, .slice (some ⟨g3, 0, none⟩) 1 1] #[.string ⟨#[42]⟩] _ rfl⟩
  have N2 := ((N1.alloc (.cells #[.slice (some ⟨w1.heap.size + 1, 0, none⟩) 1 1, .slice none 0 0, .slice (some ⟨g1, 0, none⟩) 1 1, .slice (some ⟨g2, 0, none⟩) 1 1, .slice (some ⟨g3, 0, none⟩) 1 1] 50)).alloc (.cells #[.string ⟨#[42]⟩] 9)).alloc (.cells #[.slice (some ⟨w1.heap.size + 1, 0, none⟩) 1 1, .slice none 0 0, .slice (some ⟨g1, 0, none⟩) 1 1, .slice (some ⟨g2, 0, none⟩) 1 1, .slice (some ⟨g3, 0, none⟩) 1 1] 50)
  have HB : Hd _ := ⟨And.intro b1 (And.intro b2 b3)⟩
  have HN : Hd _ := ⟨N1⟩
  have HL : Hd (w.heap.size + 1 ≤ g1 ∧ w.heap.size + 1 ≤ g2 ∧ w.heap.size + 1 ≤ g3) := ⟨by simpa using l1, by simpa using l2, by simpa using l3⟩
  have HG : Hd (g0 = w.heap.size ∧ Below w.heap.size w w1) := ⟨hg0, AL.out.trans (bel.mono AL.out.size)⟩
  have hlt := N1.lt
  have f0 := N2.frozen 0
  have f1 := N2.frozen 1
  have f2 := N2.frozen 2
  have f3 := N2.frozen 3
  have f4 := N2.frozen 4
  have d0 := N2.cellv (v := .string ⟨#[]⟩) 0 rfl
  have d1 := N2.cellv (v := .string ⟨#[]⟩) 1 rfl
  have d2 := N2.cellv (v := .int .i64 0) 2 rfl
  have d3 := N2.cellv (v := .int .i64 0) 3 rfl
  have d4 := N2.cellv (v := .slice none 0 0) 4 rfl
  clear b1 b2 b3 l1 l2 l3 bel A3 NB N1 N2 AL hg0
  go_wp2_with fail
  obtain ⟨m0, k0, m1, m2⟩ := M.out
  clear d0 d1 d2 d3 d4 f0 f1 f2 f3 f4
  have o9 := off_blk HN.out (by decide : 53 ≠ 9)
  have hsz : w.heap.size ≤ w1.heap.size := HG.out.2.size
  have e1 := own_one (B := w.heap.size) (HB.out.1.kept k0 (o9 _ _ HB.out.1)) (by have := HL.out; omega)
  have e2 := own_one (B := w.heap.size) (HB.out.2.1.kept k0 (o9 _ _ HB.out.2.1)) (by have := HL.out; omega)
  have e3 := own_one (B := w.heap.size) (HB.out.2.2.kept k0 (o9 _ _ HB.out.2.2)) (by have := HL.out; omega)
  have em := own_one (B := w.heap.size) m1 (by omega)
  refine bodyPost_ret (res25 _ _ g0 _ _ _ _ _ rfl m0) rfl ⟨⟨_, rfl, one_rl (q := ⟨.slice (some ⟨w1.heap.size + 1, 0, none⟩) 1 1, .slice none 0 0, .slice (some ⟨g1, 0, none⟩) 1 1, .slice (some ⟨g2, 0, none⟩) 1 1, .slice (some ⟨g3, 0, none⟩) 1 1⟩) (B := w.heap.size) m2 (by omega) ⟨em, own_nil _ _, e1, e2, e3⟩⟩, ?_⟩
  exact HG.out.2.trans (k0.below hsz (fun k hk => by rw [hk, HG.out.1]; exact Nat.le_refl _))
end Go.Proofs.YtijjpblmnlednaaGreatDoor
