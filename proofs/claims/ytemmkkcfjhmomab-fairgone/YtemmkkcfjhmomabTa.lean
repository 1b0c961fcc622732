/-
  Who is taken, by the program. Conditions: the lane lies in memory, its time is a word, and it is short.
-/
import Derived.Test.YtemmkkcfjhmomabWo
import Derived.Test.YtemmkkcfjhmomabFi
namespace Go.Proofs.Ytemmkkcfjhmomab
open Go.RowKit

theorem resTk10 (tmps : Array Value) (w : World) (g q : Nat) {s : Int} {a : Option Addr} {n c : Nat} {t : Tk} (b : Bool) (ht : tmps[4]?.getD undef = .pointer (some ⟨g, 0, none⟩)) (hu : tmps[5]?.getD undef = .pointer (some ⟨q, 0, none⟩)) (hb : tmps[6]?.getD undef = .bool b) (h : Blk w g 38 (lnA s (.slice a n c))) (k : Blk w q 30 (tkA t)) :
    (results Try.f20 tmps).run Try.prog w = .ok (.tuple #[.agg #[.int .u64 s, .slice a n c], .agg #[.int .i64 t.id, .int .i64 t.wid, .int .i64 t.sts, .int .i64 t.sin, .int .i64 t.unt], .bool b]) w := by
  obtain ⟨⟨c0, c1⟩, -⟩ := h.lane
  obtain ⟨⟨d0, d1, d2, d3, d4⟩, -⟩ := k.five
  simp [results, Try.results20, go_sem, ht, hu, hb, c0, c1, d0, d1, d2, d3, d4]
theorem resTk12 (tmps : Array Value) (w : World) (g q : Nat) {s : Int} {a : Option Addr} {n c : Nat} {t : Tk} (b : Bool) (ht : tmps[4]?.getD undef = .pointer (some ⟨g, 0, none⟩)) (hu : tmps[5]?.getD undef = .pointer (some ⟨q, 0, none⟩)) (hb : tmps[6]?.getD undef = .bool b) (h : Blk w g 38 (lnA s (.slice a n c))) (k : Blk w q 30 (tkA t)) :
    (results Try.f14 tmps).run Try.prog w = .ok (.tuple #[.agg #[.int .u64 s, .slice a n c], .agg #[.int .i64 t.id, .int .i64 t.wid, .int .i64 t.sts, .int .i64 t.sin, .int .i64 t.unt], .bool b]) w := by
  obtain ⟨⟨c0, c1⟩, -⟩ := h.lane
  obtain ⟨⟨d0, d1, d2, d3, d4⟩, -⟩ := k.five
  simp [results, Try.results14, go_sem, ht, hu, hb, c0, c1, d0, d1, d2, d3, d4]
/-- A lane and a ticket are put into the two result's blocks. -/
theorem two_put {w : World} {g q : Nat} {z : Int} {u : Value} {t0 : Tk} (h : Blk w g 38 (lnA z u)) (k : Blk w q 30 (tkA t0)) (s' : Int) (v' : Value) (t' : Tk) :
    Blk ((((((((w.setCell ⟨g, 0, none⟩ (.int .u64 s')).setCell ⟨g, 1, none⟩ v')).setCell ⟨q, 0, none⟩ (.int .i64 t'.id)).setCell ⟨q, 1, none⟩ (.int .i64 t'.wid)).setCell ⟨q, 2, none⟩ (.int .i64 t'.sts)).setCell ⟨q, 3, none⟩ (.int .i64 t'.sin)).setCell ⟨q, 4, none⟩ (.int .i64 t'.unt)) g 38 (lnA s' v')
    ∧ Blk ((((((((w.setCell ⟨g, 0, none⟩ (.int .u64 s')).setCell ⟨g, 1, none⟩ v')).setCell ⟨q, 0, none⟩ (.int .i64 t'.id)).setCell ⟨q, 1, none⟩ (.int .i64 t'.wid)).setCell ⟨q, 2, none⟩ (.int .i64 t'.sts)).setCell ⟨q, 3, none⟩ (.int .i64 t'.sin)).setCell ⟨q, 4, none⟩ (.int .i64 t'.unt)) q 30 (tkA t')
    ∧ Kept (fun k => k = g ∨ k = q) w ((((((((w.setCell ⟨g, 0, none⟩ (.int .u64 s')).setCell ⟨g, 1, none⟩ v')).setCell ⟨q, 0, none⟩ (.int .i64 t'.id)).setCell ⟨q, 1, none⟩ (.int .i64 t'.wid)).setCell ⟨q, 2, none⟩ (.int .i64 t'.sts)).setCell ⟨q, 3, none⟩ (.int .i64 t'.sin)).setCell ⟨q, 4, none⟩ (.int .i64 t'.unt)) := by
  have hne : g ≠ q := h.ne k (by decide)
  obtain ⟨q1, q2⟩ := lane_set h s' v'
  obtain ⟨u1, u2⟩ := five_set (k.kept q2 (Ne.symm hne)) t'
  exact ⟨q1.kept u2 hne, u1, (q2.mono (fun k _ e => .inl e)).trans (u2.mono (fun k _ e => .inr e))⟩

/-- A lane's time behind a take. -/
def tkS (s : Int) (L : List Tk) (g : Int) : Int := if L = [] then s else finI s L g
theorem tkS_nil (s g : Int) : tkS s [] g = s := rfl
theorem tkS_some {s g : Int} {L : List Tk} (h : L ≠ []) : tkS s L g = finI s L g := if_neg h
theorem tkS_word {s g : Int} {L : List Tk} (h : Word s) : Word (tkS s L g) := by
  unfold tkS
  split
  · exact h
  · exact finI_word h
theorem SlR.keep {S : Nat → Prop} {w w' : World} {a : Option Addr} {c : Nat} {L : List Tk} (h : SlR w a c L) (k : Kept S w w') (hS : ∀ b off, a = some ⟨b, off, none⟩ → L ≠ [] → ¬ S b) : SlR w' a c L := by
  refine ⟨h.1, h.2.1, fun hn => ?_⟩
  exact h.2.2.keep k (fun b off e => hS b off e hn) hn
/-- Ahead of the last region: what was answered lies in two boxes, and is put into the result's. -/
structure LastT (w W : World) (Z A g4 g3 : Nat) (s : Int) (v : Value) (t : Tk) (D : List Tk) : Prop where
  ln : Blk W g4 38 (lnA s v)
  tk : Blk W (g4 + 1) 30 (tkA t)
  own : OwnT W g3 v D
  r1 : Blk W (A + 1) 38 (lnA 0 (.slice none 0 0))
  r2 : Blk W (A + 1 + 1) 30 (tkA tkZ)
  bel : Below Z w W
  zl : Z ≤ A
  lo : A + 1 + 1 < g3
  mid : g3 ≤ g4
theorem LastT.drew {w W : World} {Z A g4 g3 : Nat} {s : Int} {v : Value} {t : Tk} {D : List Tk} (h : LastT w W Z A g4 g3 s v t D) : LastT w W.drew Z A g4 g3 s v t D :=
  ⟨h.ln, h.tk, h.own, h.r1, h.r2, h.bel.drew, h.zl, h.lo, h.mid⟩
theorem OwnT.other {w w' : World} {B g : Nat} {v : Value} {L : List Tk} (h : OwnT w B v L) {cs : Array Value} (k : Blk w g 38 cs) (q : Kept (fun j => j = g) w w') : OwnT w' B v L := by
  refine ⟨h.1, h.2.imp id ?_⟩
  rintro ⟨b, cap, cur, e, hb, hg, r⟩
  refine ⟨b, cap, cur, e, hb, ?_, r⟩
  have hlt : b < w.heap.size := by
    rcases Nat.lt_or_ge b w.heap.size with h1 | h1
    · exact h1
    · rw [Array.getElem?_eq_none h1] at hg; cases hg
  rw [q.block b hlt (fun e => k.ne' hg (by decide) e.symm)]
  exact hg
theorem LastT.put {w W : World} {Z A g4 g3 : Nat} {s : Int} {v : Value} {t : Tk} {D : List Tk} (h : LastT w W Z A g4 g3 s v t D) (f : Int) : LastT w (W.setCell ⟨g4, 0, none⟩ (.int .u64 f)) Z A g4 g3 f v t D := by
  have q : Kept (fun j => j = g4) W (W.setCell ⟨g4, 0, none⟩ (.int .u64 f)) := (Kept.refl _ _).setCell _ _ (.inl rfl)
  have hlo := h.lo
  have hmid := h.mid
  have hzl := h.zl
  refine ⟨?_, h.tk.kept q (by omega), h.own.other h.ln q, h.r1.kept q (by omega), h.r2.kept q (by omega), h.bel.trans (q.below (by have := h.r1.lt; omega) (fun k e => by omega)), hzl, hlo, hmid⟩
  have := h.ln.set 0 (.int .u64 f)
  simpa [lnA] using this

set_option maxRecDepth 20000 in
set_option maxHeartbeats 2000000 in
theorem take_ok (s : Int) (a : Option Addr) (c : Nat) (L : List Tk) (g : Int) (w : World) (hs : Word s) (h : SlR w a c L) (hl : L.length ≤ 2000) :
    Calls Try.prog 20 #[.agg #[.int .u64 s, .slice a L.length c], .int .i64 g] w fun e w' => (∃ v, e = .returned (.tuple #[v, .agg #[.int .i64 (gt L 0).id, .int .i64 (gt L 0).wid, .int .i64 (gt L 0).sts, .int .i64 (gt L 0).sin, .int .i64 (gt L 0).unt], .bool (hasI L)]) ∧ LnW w' w.heap.size (tkS s L g) L.tail v (hasI L)) ∧ Below w.heap.size w w' := by
  obtain ⟨w2, hw2⟩ : ∃ w2, w2 = ((w.alloc (.cells #[.int .u64 s, .slice a L.length c] 38)).alloc (.cells #[.int .u64 0, .slice none 0 0] 38)).alloc (.cells #[.int .i64 0, .int .i64 0, .int .i64 0, .int .i64 0, .int .i64 0] 30) := ⟨_, rfl⟩
  have BX := boxes3 w 38 38 30 #[.int .u64 s, .slice a L.length c] #[.int .u64 0, .slice none 0 0] #[.int .i64 0, .int .i64 0, .int .i64 0, .int .i64 0, .int .i64 0]
  rw [← hw2] at BX
  obtain ⟨B, N1, N2, N3⟩ := BX
  have F := finish_ok s a c L g w2 hs (h.carry B).2.2 hl
  obtain ⟨⟨c0, c1⟩, -⟩ := Blk.lane N1
  have H : Hd (∀ W, Below w2.heap.size w2 W → Blk W w.heap.size 38 (lnA s (.slice a L.length c)) ∧ Blk W (w.heap.size + 1) 38 (lnA 0 (.slice none 0 0)) ∧ Blk W (w.heap.size + 1 + 1) 30 (tkA tkZ) ∧ SlR W a c L ∧ Below w.heap.size w W) := ⟨fun W b => ⟨N1.kept (Kept.of_below b (fun _ => False)) id, N2.kept (Kept.of_below b (fun _ => False)) id, N3.kept (Kept.of_below b (fun _ => False)) id, (h.carry B).carry b, B.trans (b.mono B.size)⟩⟩
  have HZ : Hd (w.heap.size + 1 + 1 < w2.heap.size) := ⟨N3.lt⟩
  clear N1 N2 N3 B h hs
  by_cases hn : L = []
  · subst hn
    simp only [List.length_nil, finI_nil, hasI_nil] at *
    rw [tkS_nil]
    go_enter Try.func20, Try.ntmps20
    go_upto_region 1 with fail
    rw [← hw2]
    clear hw2
    go_upto_region 2 with (go_at_call 19; refine F.mono ?_; rintro e w3 ⟨rfl, b3⟩)
    obtain ⟨x1, x2, x3, x4, x5⟩ := H.out w3 b3
    have CP := copied_ok s a c [] w3 x4 (by simp)
    simp only [List.length_nil] at CP
    clear c0 c1 F x2 x3 x4 x5
    obtain ⟨⟨c0, c1⟩, -⟩ := x1.lane
    have HB : Hd (Below w2.heap.size w2 w3) := ⟨b3⟩
    clear b3 x1
    go_wp2_with fail
    go_at_call 27
    refine CP.mono ?_
    rintro e w4 ⟨⟨v, rfl, o4⟩, b4⟩
    have b24 := HB.out.trans (b4.mono HB.out.size)
    obtain ⟨-, x2, x3, -, x5⟩ := H.out w4 b24
    obtain ⟨a4, c4, rfl, -⟩ := o4.read
    simp only [List.length_nil] at o4 ⊢
    obtain ⟨q1, q2, q3⟩ := two_put x2 x3 s (.slice a4 0 c4) tkZ
    obtain ⟨⟨r0, r1⟩, f0, f1⟩ := x2.lane
    obtain ⟨⟨d0, d1, d2, d3, d4⟩, e0, e1, e2, e3, e4⟩ := x3.five
    have o5 := o4.kept q3 (fun j hj e => by have := HZ.out; have := HB.out.size; omega)
    have Q : Hd (_ ∧ _ ∧ _ ∧ _) := ⟨q1, q2, o5, x5.trans (q3.below x5.size (fun k e => by omega))⟩
    clear c0 c1 CP x2 x3 x5 q1 q2 q3 o4 o5 b4 b24 H
    simp only [tkZ] at Q d0 d1 d2 d3 d4
    go_wp2_with fail
    refine bodyPost_ret (resTk10 (t := tkZ) _ _ _ _ false rfl rfl rfl Q.out.1 Q.out.2.1) rfl ?_
    refine ⟨⟨_, rfl, ?_⟩, Q.out.2.2.2⟩
    exact Q.out.2.2.1.lnW rfl (by have := HZ.out; have := HB.out.size; omega)
  · rw [hasI_some hn, tkS_some hn]
    rw [hasI_some hn] at F
    have hp := len_pos hn
    have WO : Hd (∀ W, SlR W a c L → Calls Try.prog 28 #[.agg #[.int .u64 s, .slice a L.length c], .int .i64 0] W fun e w' => (∃ v, e = .returned (.tuple #[.agg #[.int .u64 s, v], .agg #[.int .i64 (gt L 0).id, .int .i64 (gt L 0).wid, .int .i64 (gt L 0).sts, .int .i64 (gt L 0).sin, .int .i64 (gt L 0).unt]]) ∧ OwnT w' W.heap.size v L.tail) ∧ Below W.heap.size W w') := ⟨fun W q => by
      have := without_ok s a c 0 L W q hl hp
      rw [List.take_zero, List.nil_append, Nat.zero_add, List.drop_one] at this
      exact this⟩
    generalize finI s L g = f at *
    generalize gt L 0 = t at *
    obtain ⟨t0, t1, t2, t3, t4⟩ := t
    simp only at *
    generalize L.tail = D at *
    clear hn
    obtain ⟨n, hn⟩ : ∃ n, n = L.length := ⟨_, rfl⟩
    rw [← hn] at hw2 hl F H WO hp c1 ⊢
    clear hn
    go_enter Try.func20, Try.ntmps20
    go_upto_region 1 with fail
    rw [← hw2]
    clear hw2
    go_upto_region 2 with (go_at_call 19; refine F.mono ?_; rintro e w3 ⟨rfl, b3⟩)
    obtain ⟨x1, x2, x3, x4, x5⟩ := H.out w3 b3
    have CP := WO.out w3 x4
    clear c0 c1 F x2 x3 x4 x5 WO
    obtain ⟨⟨c0, c1⟩, -⟩ := x1.lane
    have HB : Hd (Below w2.heap.size w2 w3) := ⟨b3⟩
    clear b3 x1
    go_wp2_with fail
    go_at_call 28
    refine CP.mono ?_
    rintro e w4 ⟨⟨v, rfl, o4⟩, b4⟩
    have b24 := HB.out.trans (b4.mono HB.out.size)
    obtain ⟨a4, c4, e4, -⟩ := o4.read
    obtain ⟨m, hm⟩ : ∃ m, m = D.length := ⟨_, rfl⟩
    rw [← hm] at e4
    subst e4
    have HM : Hd (m = D.length) := ⟨hm⟩
    clear hm
    obtain ⟨BY, Y1, Y2⟩ := boxes w4 38 30 #[.int .u64 s, .slice a4 m c4] #[.int .i64 t0, .int .i64 t1, .int .i64 t2, .int .i64 t3, .int .i64 t4]
    obtain ⟨w5, hw5⟩ : ∃ w5, w5 = (w4.alloc (.cells #[.int .u64 s, .slice a4 m c4] 38)).alloc (.cells #[.int .i64 t0, .int .i64 t1, .int .i64 t2, .int .i64 t3, .int .i64 t4] 30) := ⟨_, rfl⟩
    rw [← hw5] at BY Y1 Y2
    have o5 : OwnT w5 w3.heap.size (.slice a4 m c4) D := by rw [hw5]; exact World.ownsRow.alloc (World.ownsRow.alloc o4 _) _
    have b25 := b24.trans (BY.mono b24.size)
    obtain ⟨-, x2, x3, -, x5⟩ := H.out w5 b25
    have HH : Hd (LastT w w5 w.heap.size w.heap.size w4.heap.size w3.heap.size s (.slice a4 m c4) ⟨t0, t1, t2, t3, t4⟩ D) := ⟨⟨Y1, Y2, o5, x2, x3, x5, Nat.le_refl _, by have := HZ.out; have := HB.out.size; omega, b4.size⟩⟩
    obtain ⟨⟨m0, m1⟩, n0, n1⟩ := Blk.lane Y1
    clear c0 c1 CP b4 b24 BY Y1 Y2 o4 o5 b25 HB x2 x3 x5 H HZ
    go_upto_region 5 with fail
    rw [← hw5]
    clear hw5
    have H6 := HH.out.put f
    clear HH
    go_upto_region 6 with fail
    generalize w5.setCell ⟨w4.heap.size, 0, none⟩ (.int .u64 f) = w6 at *
    clear m0 m1 n0 n1
    generalize w4.heap.size = g4 at *
    generalize w3.heap.size = g3 at *
    obtain ⟨A, hA⟩ : ∃ A, A = w.heap.size := ⟨_, rfl⟩
    have HA : Hd (A = w.heap.size) := ⟨hA⟩
    rw [← hA] at H6 ⊢
    clear hA
    have H7 : LastT w w6.drew A A g4 g3 f (.slice a4 m c4) ⟨t0, t1, t2, t3, t4⟩ D := H6.drew
    clear H6
    refine AnyG.start (T := fun W => Kept (fun k => k = A + 1 ∨ k = A + 1 + 1) w6.drew W) (U := fun _ => True) (j0 := 100) (by kernel_rfl) ?_
    generalize w6.drew = w7 at *
    have R : Kept (fun k => k = A + 1 ∨ k = A + 1 + 1) w7 w7 := Kept.refl _ _
    have X0 : Hd (∀ W, Kept (fun k => k = A + 1 ∨ k = A + 1 + 1) w7 W → W.cell? ⟨g4, 0, none⟩ = some (.int .u64 f) ∧ W.cell? ⟨g4, 1, none⟩ = some (.slice a4 m c4)) := ⟨fun W q => (H7.ln.kept q (by have := H7.lo; have := H7.mid; omega)).lane.1⟩
    have X1 : Hd (∀ W, Kept (fun k => k = A + 1 ∨ k = A + 1 + 1) w7 W → W.cell? ⟨g4 + 1, 0, none⟩ = some (.int .i64 t0) ∧ W.cell? ⟨g4 + 1, 1, none⟩ = some (.int .i64 t1) ∧ W.cell? ⟨g4 + 1, 2, none⟩ = some (.int .i64 t2) ∧ W.cell? ⟨g4 + 1, 3, none⟩ = some (.int .i64 t3) ∧ W.cell? ⟨g4 + 1, 4, none⟩ = some (.int .i64 t4)) := ⟨fun W q => (H7.tk.kept q (by have := H7.lo; have := H7.mid; omega)).five.1⟩
    obtain ⟨q1, q2, q3⟩ := two_put H7.r1 H7.r2 f (.slice a4 m c4) ⟨t0, t1, t2, t3, t4⟩
    obtain ⟨q1', q3'⟩ := lane_set H7.r1 f (.slice a4 m c4)
    have P3 := H7.r2.kept q3' (by omega)
    obtain ⟨⟨r0, r1⟩, f0, f1⟩ := H7.r1.lane
    obtain ⟨⟨d0, d1, d2, d3, d4⟩, e0, e1, e2, e3, e4⟩ := P3.five
    simp only at q1 q2 q3
    refine .tq 0 29 R ?_ (hy := fun w hSw => by have s := X0.out w hSw; go_simp; rfl); simp only [oqA, oqB, oqC]
    refine .tq 1 30 R ?_ (hy := fun w hSw => by have s := X1.out w hSw; go_simp; rfl); simp only [oqA, oqB, oqC]
    refine AnyG.ready (rs := [2]) (by kernel_rfl) (by simp) ?_
    refine AllG.cons rfl (fun K hK => ?_) AllG.nil
    go_simp
    refine hK.out _ _ ⟨q3'.mono (fun k _ e => .inl e), fun _ => trivial⟩ ?_
    clear hK K
    refine AnyG.ready (rs := [3]) (by kernel_rfl) (by simp) ?_
    refine AllG.cons rfl (fun K hK => ?_) AllG.nil
    go_simp
    refine hK.out _ _ ⟨q3, fun _ => trivial⟩ ?_
    clear hK K
    refine AnyG.ready (rs := [4]) (by kernel_rfl) (by simp) ?_
    refine AllG.cons rfl (fun K hK => ?_) AllG.nil
    go_simp
    refine hK.out _ _ ⟨q3, fun _ => trivial⟩ ?_
    clear hK K
    refine AnyG.done (by kernel_rfl) ?_ _
    have HLO : Hd (A ≤ g3) := ⟨by have := H7.lo; omega⟩
    have o8 := H7.own.kept q3 (fun j hj e => by have := H7.lo; omega)
    have b8 := H7.bel.trans (q3.below (B := A) (by have := H7.r1.lt; omega) (fun k e => by omega))
    have HR : Hd (_ ∧ _ ∧ _ ∧ _) := ⟨q1, q2, o8.lnW (b := true) (s := f) (B := A) HM.out (by have := HLO.out; omega), b8⟩
    clear q1 q2 q3 q1' q3' P3 r0 r1 f0 f1 d0 d1 d2 d3 d4 e0 e1 e2 e3 e4 o8 b8 H7 R X0 X1
    go_wp2_with fail
    refine bodyPost_ret (resTk10 (t := ⟨t0, t1, t2, t3, t4⟩) _ _ _ _ true rfl rfl rfl HR.out.1 HR.out.2.1) rfl ?_
    exact ⟨⟨_, rfl, by rw [← HA.out]; exact HR.out.2.2.1⟩, by rw [← HA.out]; exact HR.out.2.2.2⟩
end Go.Proofs.Ytemmkkcfjhmomab
