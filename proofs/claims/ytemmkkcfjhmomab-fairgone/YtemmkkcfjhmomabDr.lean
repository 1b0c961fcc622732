/-
  Who is dropped, by the program. Conditions: the lane lies in memory, and is short.
-/
import Derived.Test.YtemmkkcfjhmomabTa
import Derived.Test.YtemmkkcfjhmomabIx
namespace Go.Proofs.Ytemmkkcfjhmomab
open Go.RowKit

theorem gt_out : ∀ (L : List Tk) (k : Nat), L.length ≤ k → gt L k = tkZ
  | [], _, _ => rfl
  | _ :: L, 0, h => absurd h (by simp)
  | t :: L, k + 1, h => by rw [gt_cons_succ]; exact gt_out L k (by simpa using h)
/-- Who is left, who is dropped, and whether there is one. -/
def drL (id : Int) (L : List Tk) : List Tk := L.take (fnd id L) ++ L.drop (fnd id L + 1)
def drT (id : Int) (L : List Tk) : Tk := gt L (fnd id L)
def drB (id : Int) (L : List Tk) : Bool := decide (fnd id L < L.length)
theorem drL_no {id : Int} {L : List Tk} (h : ¬ fnd id L < L.length) : drL id L = L := by
  unfold drL
  rw [List.take_of_length_le (by omega), List.drop_eq_nil_of_le (by omega), List.append_nil]
theorem drT_no {id : Int} {L : List Tk} (h : ¬ fnd id L < L.length) : drT id L = tkZ := gt_out L _ (by omega)
theorem drB_no {id : Int} {L : List Tk} (h : ¬ fnd id L < L.length) : drB id L = false := decide_eq_false h
theorem drB_yes {id : Int} {L : List Tk} (h : fnd id L < L.length) : drB id L = true := decide_eq_true h
theorem drL_len (id : Int) (L : List Tk) : (drL id L).length ≤ L.length := by unfold drL; simp; omega
/-- Four boxes. -/
theorem boxes4 (w : World) (t1 t2 t3 t4 : Nat) (x y z u : Array Value) : Below w.heap.size w ((((w.alloc (.cells x t1)).alloc (.cells y t2)).alloc (.cells z t3)).alloc (.cells u t4)) ∧ Blk ((((w.alloc (.cells x t1)).alloc (.cells y t2)).alloc (.cells z t3)).alloc (.cells u t4)) w.heap.size t1 x ∧ Blk ((((w.alloc (.cells x t1)).alloc (.cells y t2)).alloc (.cells z t3)).alloc (.cells u t4)) (w.heap.size + 1) t2 y ∧ Blk ((((w.alloc (.cells x t1)).alloc (.cells y t2)).alloc (.cells z t3)).alloc (.cells u t4)) (w.heap.size + 1 + 1) t3 z ∧ Blk ((((w.alloc (.cells x t1)).alloc (.cells y t2)).alloc (.cells z t3)).alloc (.cells u t4)) (w.heap.size + 1 + 1 + 1) t4 u := by
  obtain ⟨B, N1, N2, N3⟩ := boxes3 w t1 t2 t3 x y z
  refine ⟨B.alloc B.size _, N1.alloc _, N2.alloc _, N3.alloc _, ?_⟩
  have := Blk.new (((w.alloc (.cells x t1)).alloc (.cells y t2)).alloc (.cells z t3)) t4 u
  rw [show (((w.alloc (.cells x t1)).alloc (.cells y t2)).alloc (.cells z t3)).heap.size = w.heap.size + 1 + 1 + 1 from by simp] at this
  exact this

set_option maxRecDepth 20000 in
set_option maxHeartbeats 2000000 in
theorem drop_ok (s : Int) (a : Option Addr) (c : Nat) (L : List Tk) (id : Int) (w : World) (h : SlR w a c L) (hl : L.length ≤ 2000) :
    Calls Try.prog 14 #[.agg #[.int .u64 s, .slice a L.length c], .int .i64 id] w fun e w' => (∃ v, e = .returned (.tuple #[v, .agg #[.int .i64 (drT id L).id, .int .i64 (drT id L).wid, .int .i64 (drT id L).sts, .int .i64 (drT id L).sin, .int .i64 (drT id L).unt], .bool (drB id L)]) ∧ LnW w' w.heap.size s (drL id L) v (drB id L)) ∧ Below w.heap.size w w' := by
  obtain ⟨w2, hw2⟩ : ∃ w2, w2 = (((w.alloc (.cells #[.int .u64 s, .slice a L.length c] 38)).alloc (.cells #[.int .i64 id] 3)).alloc (.cells #[.int .u64 0, .slice none 0 0] 38)).alloc (.cells #[.int .i64 0, .int .i64 0, .int .i64 0, .int .i64 0, .int .i64 0] 30) := ⟨_, rfl⟩
  have BX := boxes4 w 38 3 38 30 #[.int .u64 s, .slice a L.length c] #[.int .i64 id] #[.int .u64 0, .slice none 0 0] #[.int .i64 0, .int .i64 0, .int .i64 0, .int .i64 0, .int .i64 0]
  rw [← hw2] at BX
  obtain ⟨B, N1, N0, N2, N3⟩ := BX
  have F := index_ok a c L id (w.heap.size + 1) w2 (h.carry B).2.2 hl N0
  obtain ⟨⟨c0, c1⟩, -⟩ := Blk.lane N1
  have H : Hd (∀ W, Below w2.heap.size w2 W → Blk W w.heap.size 38 (lnA s (.slice a L.length c)) ∧ Blk W (w.heap.size + 1 + 1) 38 (lnA 0 (.slice none 0 0)) ∧ Blk W (w.heap.size + 1 + 1 + 1) 30 (tkA tkZ) ∧ SlR W a c L ∧ Below w.heap.size w W) := ⟨fun W b => ⟨N1.kept (Kept.of_below b (fun _ => False)) (fun h => h), N2.kept (Kept.of_below b (fun _ => False)) (fun h => h), N3.kept (Kept.of_below b (fun _ => False)) (fun h => h), (h.carry B).carry b, B.trans (b.mono B.size)⟩⟩
  have HZ : Hd (w.heap.size + 1 + 1 + 1 < w2.heap.size) := ⟨N3.lt⟩
  clear N0 N1 N2 N3 B h
  by_cases hn : fnd id L < L.length
  · have hx : ixI id L = (fnd id L : Int) := by unfold ixI; rw [if_pos hn]
    rw [hx] at F
    rw [drB_yes hn]
    have hi : (fnd id L : Int) < 0 → False := by omega
    have WO : Hd (∀ W, SlR W a c L → Calls Try.prog 28 #[.agg #[.int .u64 s, .slice a L.length c], .int .i64 (fnd id L : Int)] W fun e w' => (∃ v, e = .returned (.tuple #[.agg #[.int .u64 s, v], .agg #[.int .i64 (drT id L).id, .int .i64 (drT id L).wid, .int .i64 (drT id L).sts, .int .i64 (drT id L).sin, .int .i64 (drT id L).unt]]) ∧ OwnT w' W.heap.size v (drL id L)) ∧ Below W.heap.size W w') := ⟨fun W q => without_ok s a c (fnd id L) L W q hl hn⟩
    clear hx hi
    generalize drL id L = D at *
    generalize drT id L = t at *
    obtain ⟨t0, t1, t2, t3, t4⟩ := t
    simp only at *
    generalize fnd id L = k at *
    obtain ⟨n, hn'⟩ : ∃ n, n = L.length := ⟨_, rfl⟩
    rw [← hn'] at hw2 hl F H WO hn c1 ⊢
    clear hn'
    go_enter Try.func14, Try.ntmps14
    go_upto_region 1 with fail
    rw [← hw2]
    clear hw2
    go_upto_region 2 with (go_at_call 25; refine F.mono ?_; rintro e w3 ⟨rfl, b3⟩)
    obtain ⟨x1, x2, x3, x4, x5⟩ := H.out w3 b3
    have CP := WO.out w3 x4
    clear c0 c1 F x2 x3 x4 x5 WO
    obtain ⟨⟨c0, c1⟩, -⟩ := x1.lane
    have HB : Hd (Below w2.heap.size w2 w3) := ⟨b3⟩
    clear b3 x1
    go_wp2_with fail
    go_at_call 28
    refine CP.mono ?_
    rintro e w4 ⟨⟨v, rfl, o4⟩, b4⟩
    have b24 := HB.out.trans (b4.mono HB.out.size)
    obtain ⟨a4, c4, e4, -⟩ := o4.read
    obtain ⟨m, hm⟩ : ∃ m, m = D.length := ⟨_, rfl⟩
    rw [← hm] at e4
    subst e4
    have HM : Hd (m = D.length) := ⟨hm⟩
    clear hm
    obtain ⟨BY, Y1, Y2⟩ := boxes w4 38 30 #[.int .u64 s, .slice a4 m c4] #[.int .i64 t0, .int .i64 t1, .int .i64 t2, .int .i64 t3, .int .i64 t4]
    obtain ⟨w5, hw5⟩ : ∃ w5, w5 = (w4.alloc (.cells #[.int .u64 s, .slice a4 m c4] 38)).alloc (.cells #[.int .i64 t0, .int .i64 t1, .int .i64 t2, .int .i64 t3, .int .i64 t4] 30) := ⟨_, rfl⟩
    rw [← hw5] at BY Y1 Y2
    have o5 : OwnT w5 w3.heap.size (.slice a4 m c4) D := by rw [hw5]; exact World.ownsRow.alloc (World.ownsRow.alloc o4 _) _
    have b25 := b24.trans (BY.mono b24.size)
    obtain ⟨-, x2, x3, -, x5⟩ := H.out w5 b25
    have H6 : LastT w w5 w.heap.size (w.heap.size + 1) w4.heap.size w3.heap.size s (.slice a4 m c4) ⟨t0, t1, t2, t3, t4⟩ D := ⟨Y1, Y2, o5, x2, x3, x5, Nat.le_succ _, by have := HZ.out; have := HB.out.size; omega, b4.size⟩
    clear c0 c1 CP b4 b24 BY Y1 Y2 o4 o5 b25 HB x2 x3 x5 H HZ
    go_upto_region 5 with fail
    rw [← hw5]
    clear hw5
    obtain ⟨w6, hw6⟩ : ∃ w6, w6 = w5 := ⟨_, rfl⟩
    rw [← hw6] at H6 ⊢
    clear hw6
    generalize w4.heap.size = g4 at *
    generalize w3.heap.size = g3 at *
    obtain ⟨A0, hA⟩ : ∃ A0, A0 = w.heap.size := ⟨_, rfl⟩
    have HA : Hd (A0 = w.heap.size) := ⟨hA⟩
    rw [← hA] at H6 ⊢
    clear hA
    have H7 : LastT w w6.drew A0 (A0 + 1) g4 g3 s (.slice a4 m c4) ⟨t0, t1, t2, t3, t4⟩ D := H6.drew
    clear H6
    refine AnyG.start (T := fun W => Kept (fun k => k = A0 + 1 + 1 ∨ k = A0 + 1 + 1 + 1) w6.drew W) (U := fun _ => True) (j0 := 100) (by kernel_rfl) ?_
    generalize w6.drew = w7 at *
    have R : Kept (fun k => k = A0 + 1 + 1 ∨ k = A0 + 1 + 1 + 1) w7 w7 := Kept.refl _ _
    have X0 : Hd (∀ W, Kept (fun k => k = A0 + 1 + 1 ∨ k = A0 + 1 + 1 + 1) w7 W → W.cell? ⟨g4, 0, none⟩ = some (.int .u64 s) ∧ W.cell? ⟨g4, 1, none⟩ = some (.slice a4 m c4)) := ⟨fun W q => (H7.ln.kept q (by have := H7.lo; have := H7.mid; omega)).lane.1⟩
    have X1 : Hd (∀ W, Kept (fun k => k = A0 + 1 + 1 ∨ k = A0 + 1 + 1 + 1) w7 W → W.cell? ⟨g4 + 1, 0, none⟩ = some (.int .i64 t0) ∧ W.cell? ⟨g4 + 1, 1, none⟩ = some (.int .i64 t1) ∧ W.cell? ⟨g4 + 1, 2, none⟩ = some (.int .i64 t2) ∧ W.cell? ⟨g4 + 1, 3, none⟩ = some (.int .i64 t3) ∧ W.cell? ⟨g4 + 1, 4, none⟩ = some (.int .i64 t4)) := ⟨fun W q => (H7.tk.kept q (by have := H7.lo; have := H7.mid; omega)).five.1⟩
    obtain ⟨q1, q2, q3⟩ := two_put H7.r1 H7.r2 s (.slice a4 m c4) ⟨t0, t1, t2, t3, t4⟩
    obtain ⟨q1', q3'⟩ := lane_set H7.r1 s (.slice a4 m c4)
    have P3 := H7.r2.kept q3' (by omega)
    obtain ⟨⟨r0, r1⟩, f0, f1⟩ := H7.r1.lane
    obtain ⟨⟨d0, d1, d2, d3, d4⟩, e0, e1, e2, e3, e4⟩ := P3.five
    simp only at q1 q2 q3
    refine .tq 0 25 R ?_ (hy := fun w hSw => by have s := X0.out w hSw; go_simp; rfl); simp only [oqA, oqB, oqC]
    refine .tq 1 26 R ?_ (hy := fun w hSw => by have s := X1.out w hSw; go_simp; rfl); simp only [oqA, oqB, oqC]
    refine AnyG.ready (rs := [2]) (by kernel_rfl) (by simp) ?_
    refine AllG.cons rfl (fun K hK => ?_) AllG.nil
    go_simp
    refine hK.out _ _ ⟨q3'.mono (fun k _ e => .inl e), fun _ => trivial⟩ ?_
    clear hK K
    refine AnyG.ready (rs := [3]) (by kernel_rfl) (by simp) ?_
    refine AllG.cons rfl (fun K hK => ?_) AllG.nil
    go_simp
    refine hK.out _ _ ⟨q3, fun _ => trivial⟩ ?_
    clear hK K
    refine AnyG.ready (rs := [4]) (by kernel_rfl) (by simp) ?_
    refine AllG.cons rfl (fun K hK => ?_) AllG.nil
    go_simp
    refine hK.out _ _ ⟨q3, fun _ => trivial⟩ ?_
    clear hK K
    refine AnyG.done (by kernel_rfl) ?_ _
    have HLO : Hd (A0 ≤ g3) := ⟨by have := H7.lo; omega⟩
    have o8 := H7.own.kept q3 (fun j hj e => by have := H7.lo; omega)
    have b8 := H7.bel.trans (q3.below (B := A0) (by have := H7.r1.lt; omega) (fun k e => by omega))
    have HR : Hd (_ ∧ _ ∧ _ ∧ _) := ⟨q1, q2, o8.lnW (b := true) (s := s) (B := A0) HM.out (by have := HLO.out; omega), b8⟩
    clear q1 q2 q3 q1' q3' P3 r0 r1 f0 f1 d0 d1 d2 d3 d4 e0 e1 e2 e3 e4 o8 b8 H7 R X0 X1
    go_wp2_with fail
    refine bodyPost_ret (resTk12 (t := ⟨t0, t1, t2, t3, t4⟩) _ _ _ _ true rfl rfl rfl HR.out.1 HR.out.2.1) rfl ?_
    exact ⟨⟨_, rfl, by rw [← HA.out]; exact HR.out.2.2.1⟩, by rw [← HA.out]; exact HR.out.2.2.2⟩
  · have hx : ixI id L = -1 := by unfold ixI; rw [if_neg hn]
    rw [hx] at F
    rw [drB_no hn, drT_no hn, drL_no hn]
    simp only [tkZ]
    have CPH : Hd (∀ W, SlR W a c L → Calls Try.prog 27 #[.agg #[.int .u64 s, .slice a L.length c]] W fun e w' => (∃ v, e = .returned (.agg #[.int .u64 s, v]) ∧ OwnT w' W.heap.size v L) ∧ Below W.heap.size W w') := ⟨fun W q => copied_ok s a c L W q hl⟩
    clear hx hn
    obtain ⟨n, hn'⟩ : ∃ n, n = L.length := ⟨_, rfl⟩
    have HN : Hd (n = L.length) := ⟨hn'⟩
    rw [← hn'] at hw2 hl F H c1 CPH ⊢
    clear hn'
    go_enter Try.func14, Try.ntmps14
    go_upto_region 1 with fail
    rw [← hw2]
    clear hw2
    go_upto_region 2 with (go_at_call 25; refine F.mono ?_; rintro e w3 ⟨rfl, b3⟩)
    obtain ⟨x1, x2, x3, x4, x5⟩ := H.out w3 b3
    have CP := CPH.out w3 x4
    clear c0 c1 F x2 x3 x4 x5 CPH
    obtain ⟨⟨c0, c1⟩, -⟩ := x1.lane
    have HB : Hd (Below w2.heap.size w2 w3) := ⟨b3⟩
    clear b3 x1
    go_wp2_with fail
    go_at_call 27
    refine CP.mono ?_
    rintro e w4 ⟨⟨v, rfl, o4⟩, b4⟩
    have b24 := HB.out.trans (b4.mono HB.out.size)
    obtain ⟨-, x2, x3, -, x5⟩ := H.out w4 b24
    obtain ⟨a4, c4, e4, -⟩ := o4.read
    rw [← HN.out] at e4
    subst e4
    obtain ⟨q1, q2, q3⟩ := two_put x2 x3 s (.slice a4 n c4) tkZ
    obtain ⟨⟨r0, r1⟩, f0, f1⟩ := x2.lane
    obtain ⟨⟨d0, d1, d2, d3, d4⟩, e0, e1, e2, e3, e4⟩ := x3.five
    have o5 := o4.kept q3 (fun j hj e => by have := HZ.out; have := HB.out.size; omega)
    have Q : Hd (_ ∧ _ ∧ _ ∧ _) := ⟨q1, q2, o5, x5.trans (q3.below x5.size (fun k e => by omega))⟩
    clear c0 c1 CP x2 x3 x5 q1 q2 q3 o4 o5 b4 b24 H
    simp only [tkZ] at Q d0 d1 d2 d3 d4
    go_wp2_with fail
    refine bodyPost_ret (resTk12 (t := tkZ) _ _ _ _ false rfl rfl rfl Q.out.1 Q.out.2.1) rfl ?_
    refine ⟨⟨_, rfl, ?_⟩, Q.out.2.2.2⟩
    exact Q.out.2.2.1.lnW HN.out (by have := HZ.out; have := HB.out.size; omega)
end Go.Proofs.Ytemmkkcfjhmomab
