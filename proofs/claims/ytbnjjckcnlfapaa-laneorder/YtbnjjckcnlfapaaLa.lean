/-
  The walk of 'LaneAll'. Conditions: the lane lies in memory, its time and the other one are words.
-/
import Derived.Test.YtbnjjckcnlfapaaLr
import Derived.Test.YtbnjjckcnlfapaaRd
import Derived.Test.YtbnjjckcnlfapaaRt
import Derived.Test.YtbnjjckcnlfapaaRj
import Derived.Test.YtbnjjckcnlfapaaSm
namespace Go.Proofs.Ytbnjjckcnlfapaa
open Go.RowKit

/-- A lane in a box. -/
def Bx (W : World) (g : Nat) (s : Int) (a : Option Addr) (n c : Nat) (L : List Tk) : Prop := Blk W g 25 (lnA s (.slice a n c)) ∧ SlR W a c L
theorem Bx.carry {W W' : World} {g : Nat} {s : Int} {a : Option Addr} {n c : Nat} {L : List Tk} (h : Bx W g s a n c L) (b : Below W.heap.size W W') : Bx W' g s a n c L :=
  ⟨h.1.kept (Kept.of_below b (fun _ => False)) id, h.2.carry b⟩
theorem Blk.carry {W W' : World} {g t : Nat} {cs : Array Value} (h : Blk W g t cs) (b : Below W.heap.size W W') : Blk W' g t cs := h.kept (Kept.of_below b (fun _ => False)) id

set_option maxRecDepth 20000 in
set_option maxHeartbeats 8000000 in
theorem all_law (s r : Int) (a : Option Addr) (c : Nat) (L : List Tk) (t : Tk) (g now : Int) (w : World) (hs : Word s) (h : SlR w a c L) :
    Calls Try.prog 3 #[.agg #[.int .u64 s, .slice a L.length c], .int .u64 r, .agg #[.int .i64 t.id, .int .i64 t.wid, .int .i64 t.sts, .int .i64 t.sin, .int .i64 t.unt], .int .i64 g, .int .i64 now] w fun e w' => e = .returned (.bool true) ∧ Below w.heap.size w w' := by
  obtain ⟨w2, hw2⟩ : ∃ w2, w2 = (w.alloc (.cells #[.int .u64 s, .slice a L.length c] 25)).alloc (.cells #[.int .i64 t.id, .int .i64 t.wid, .int .i64 t.sts, .int .i64 t.sin, .int .i64 t.unt] 27) := ⟨_, rfl⟩
  have BX := boxes w 25 27 #[.int .u64 s, .slice a L.length c] #[.int .i64 t.id, .int .i64 t.wid, .int .i64 t.sts, .int .i64 t.sin, .int .i64 t.unt]
  rw [← hw2] at BX
  obtain ⟨B, N1, N2⟩ := BX
  have I := awake_ok w2
  have H : Hd (∀ W, Below w2.heap.size w2 W → Bx W w.heap.size s a L.length c L ∧ Blk W (w.heap.size + 1) 27 (tkA t) ∧ Below w.heap.size w W) := ⟨fun W b => ⟨Bx.carry ⟨N1, h.carry B⟩ b, N2.carry b, B.trans (b.mono B.size)⟩⟩
  clear B N1 N2 h
  by_cases t1 : (1000 : Int) < (L.length : Int)
  · obtain ⟨n, hn⟩ : ∃ n, n = L.length := ⟨_, rfl⟩
    rw [← hn] at t1 hw2 H ⊢
    clear hn
    go_enter Try.func3, Try.ntmps3
    go_upto_region 1 with fail
    rw [← hw2]
    clear hw2
    go_upto_region 3 with (go_at_call 8; refine I.mono ?_; rintro e w3 ⟨rfl, b3⟩)
    obtain ⟨x1, -, x4⟩ := H.out w3 b3
    obtain ⟨⟨c0, c1⟩, -⟩ := x1.1.lane
    have Q : Hd _ := ⟨x4⟩
    clear x1 x4 b3 I H
    go_wp2_with fail
    go_ret
    exact ⟨rfl, Q.out⟩
  have hl : L.length ≤ 1000 := by omega
  have CH : Hd (∀ W, SlR W a c L → Calls Try.prog 9 #[.agg #[.int .u64 s, .slice a L.length c]] W fun e w' => (∃ v, e = .returned (.agg #[.int .u64 s, v]) ∧ OwnT w' W.heap.size v L) ∧ Below W.heap.size W w') := ⟨fun W q => copy_ok s a c L W q (by omega)⟩
  have TH : Hd (∀ W a1 c1, SlR W a1 c1 L → (Calls Try.prog 10 #[.agg #[.int .u64 s, .slice a1 L.length c1], .int .i64 g] W fun e w' => (∃ v, e = .returned (.tuple #[v, .agg #[.int .i64 (gt L 0).id, .int .i64 (gt L 0).wid, .int .i64 (gt L 0).sts, .int .i64 (gt L 0).sin, .int .i64 (gt L 0).unt], .bool (hasI L)]) ∧ LnV w' (tkS s L g) L.tail v) ∧ Below W.heap.size W w')
      ∧ (Calls Try.prog 11 #[.agg #[.int .u64 s, .slice a1 L.length c1], .int .i64 g] W fun e w' => (∃ v, e = .returned (.tuple #[v, .agg #[.int .i64 (gt L 0).id, .int .i64 (gt L 0).wid, .int .i64 (gt L 0).sts, .int .i64 (gt L 0).sin, .int .i64 (gt L 0).unt], .bool (hasI L)]) ∧ LnV w' (tkS s L g) L.tail v) ∧ Below W.heap.size W w')
      ∧ (Calls Try.prog 12 #[.agg #[.int .u64 s, .slice a1 L.length c1], .int .i64 t.id] W fun e w' => (∃ v, e = .returned (.tuple #[v, .agg #[.int .i64 (drT t.id L).id, .int .i64 (drT t.id L).wid, .int .i64 (drT t.id L).sts, .int .i64 (drT t.id L).sin, .int .i64 (drT t.id L).unt], .bool (drB t.id L)]) ∧ LnV w' s (drL t.id L) v) ∧ Below W.heap.size W w')
      ∧ (Calls Try.prog 13 #[.agg #[.int .u64 s, .slice a1 L.length c1], .int .i64 t.id] W fun e w' => (∃ v, e = .returned (.tuple #[v, .agg #[.int .i64 (drT t.id L).id, .int .i64 (drT t.id L).wid, .int .i64 (drT t.id L).sts, .int .i64 (drT t.id L).sin, .int .i64 (drT t.id L).unt], .bool (drB t.id L)]) ∧ LnV w' s (drL t.id L) v) ∧ Below W.heap.size W w')
      ∧ (Calls Try.prog 14 #[.agg #[.int .u64 s, .slice a1 L.length c1], .int .i64 g] W fun e w' => e = .returned (.tuple #[.int .u64 (finI s L g), .bool (hasI L)]) ∧ Below W.heap.size W w')
      ∧ (Calls Try.prog 15 #[.agg #[.int .u64 s, .slice a1 L.length c1], .int .i64 g] W fun e w' => e = .returned (.tuple #[.int .u64 (finI s L g), .bool (hasI L)]) ∧ Below W.heap.size W w')) := ⟨fun W a1 c1 q => ⟨take_ok s a1 c1 L g W hs q (by omega), rtake_ok s a1 c1 L g W hs q (by omega), drop_ok s a1 c1 L t.id W q (by omega), rdrop_ok s a1 c1 L t.id W q (by omega), finish_ok s a1 c1 L g W hs q.2.2 (by omega), rfinish_ok s a1 c1 L g W hs q.2.2 (by omega)⟩⟩
  have JH : Hd (∀ W a1 c1, SlR W a1 c1 L → (Calls Try.prog 17 #[.agg #[.int .u64 s, .slice a1 L.length c1], .int .u64 r, .agg #[.int .i64 t.id, .int .i64 t.wid, .int .i64 t.sts, .int .i64 t.sin, .int .i64 t.unt]] W fun e w' => (∃ v, e = .returned v ∧ LnV w' (jnS s r L) (L ++ [t]) v) ∧ Below W.heap.size W w')
      ∧ (Calls Try.prog 18 #[.agg #[.int .u64 s, .slice a1 L.length c1], .int .u64 r, .agg #[.int .i64 t.id, .int .i64 t.wid, .int .i64 t.sts, .int .i64 t.sin, .int .i64 t.unt]] W fun e w' => (∃ v, e = .returned v ∧ LnV w' (jnS s r L) (L ++ [t]) v) ∧ Below W.heap.size W w')
      ∧ (Calls Try.prog 20 #[.agg #[.int .u64 s, .slice a1 L.length c1], .int .i64 now] W fun e w' => ∃ v, e = .returned v ∧ OwnT w' W.heap.size v (lateTo now L L.length) ∧ Below W.heap.size W w')
      ∧ (Calls Try.prog 21 #[.agg #[.int .u64 s, .slice a1 L.length c1], .int .i64 now] W fun e w' => ∃ v, e = .returned v ∧ OwnT w' W.heap.size v (lateTo now L L.length) ∧ Below W.heap.size W w')
      ∧ (Calls Try.prog 22 #[.agg #[.int .u64 s, .slice a1 L.length c1]] W fun e w' => e = .returned (.int .i64 (seatsTo L L.length)) ∧ Below W.heap.size W w')
      ∧ (Calls Try.prog 23 #[.agg #[.int .u64 s, .slice a1 L.length c1]] W fun e w' => e = .returned (.int .i64 (seatsTo L L.length)) ∧ Below W.heap.size W w')) := ⟨fun W a1 c1 q => ⟨join_ok s r a1 c1 L t W q (by omega), rjoin_ok s r a1 c1 L t W q (by omega), late_ok s a1 c1 L now W q.2.2 (by omega), rlate_ok s a1 c1 L now W q.2.2 (by omega), seats_ok s a1 c1 L W q.2.2 (by omega), rseats_ok s a1 c1 L W q.2.2 (by omega)⟩⟩
  have SH : Hd (∀ W z a1 a2 n1 n2 c1 c2 X, X.length ≤ 2000 → X.length = n1 → X.length = n2 → SlR W a1 c1 X → SlR W a2 c2 X → Calls Try.prog 16 #[.agg #[.int .u64 z, .slice a1 n1 c1], .agg #[.int .u64 z, .slice a2 n2 c2]] W fun e w' => e = .returned (.bool true) ∧ Below W.heap.size W w') := ⟨fun W z a1 a2 n1 n2 c1 c2 X hX e1 e2 q1 q2 => by
    subst e1; rw [← e2]; exact samel_ok z a1 a2 c1 c2 X W q1.2.2 q2.2.2 hX⟩
  have ST : Hd (∀ W a1 a2 n1 n2 c1 c2 X, X.length ≤ 2000 → X.length = n1 → X.length = n2 → SlR W a1 c1 X → SlR W a2 c2 X → Calls Try.prog 19 #[.slice a1 n1 c1, .slice a2 n2 c2] W fun e w' => e = .returned (.bool true) ∧ Below W.heap.size W w') := ⟨fun W a1 a2 n1 n2 c1 c2 X hX e1 e2 q1 q2 => by
    subst e1; rw [← e2]; exact same_ok a1 a2 c1 c2 X W q1.2.2 q2.2.2 hX⟩
  have HLs : Hd (L.tail.length ≤ 2000 ∧ (drL t.id L).length ≤ 2000 ∧ (L ++ [t]).length ≤ 2000 ∧ (lateTo now L L.length).length ≤ 2000 ∧ L.length ≤ 2000) := ⟨by rw [List.length_tail]; omega, Nat.le_trans (drL_len _ _) (by omega), by simp; omega, Nat.le_trans (lateTo_len _ _ _) (by omega), by omega⟩
  generalize finI s L g = f at *
  generalize tkS s L g = zt at *
  generalize jnS s r L = zj at *
  generalize hasI L = hb at *
  generalize drB t.id L = db at *
  generalize seatsTo L L.length = ss at *
  generalize gt L 0 = u at *
  generalize drT t.id L = y at *
  generalize L.tail = D1 at *
  generalize drL t.id L = D2 at *
  generalize L ++ [t] = D3 at *
  generalize lateTo now L L.length = D4 at *
  obtain ⟨u0, u1, u2, u3, u4⟩ := u
  obtain ⟨y0, y1, y2, y3, y4⟩ := y
  obtain ⟨t0, t1', t2, t3, t4⟩ := t
  simp only at *
  obtain ⟨n, hn⟩ : ∃ n, n = L.length := ⟨_, rfl⟩
  have HN : Hd (L.length = n) := ⟨hn.symm⟩
  rw [← hn] at t1 hw2 H hl CH TH JH ⊢
  clear hn hs
  go_enter Try.func3, Try.ntmps3
  go_upto_region 1 with fail
  rw [← hw2]
  clear hw2
  go_upto_region 3 with (go_at_call 8; refine I.mono ?_; rintro e w3 ⟨rfl, b3⟩)
  obtain ⟨x1, x2, x3⟩ := H.out w3 b3
  obtain ⟨⟨c0, c1⟩, -⟩ := x1.1.lane
  have C := CH.out w3 x1.2
  have B3 : Hd (Below w2.heap.size w2 w3) := ⟨b3⟩
  clear x1 x2 x3 b3 I CH
  go_upto_region 5 with fail
  go_wp2_with fail
  go_at_call 9
  refine C.mono ?_
  rintro e w4 ⟨⟨v4, rfl, o4⟩, b4⟩
  obtain ⟨a4, c4, e4, l4⟩ := o4.read
  rw [HN.out] at e4
  subst e4
  clear c0 c1 C o4
  obtain ⟨w5, hw5⟩ : ∃ w5, w5 = w4.alloc (.cells #[.int .u64 s, .slice a4 n c4] 25) := ⟨_, rfl⟩
  have q5 : Below w4.heap.size w4 w5 := by rw [hw5]; exact alloc_below _ _
  have N5 : Blk w5 w4.heap.size 25 (lnA s (.slice a4 n c4)) := by rw [hw5]; exact Blk.new _ _ _
  have B5 : Below w2.heap.size w2 w5 := (B3.out.trans (b4.mono B3.out.size)).trans (q5.mono (Nat.le_trans B3.out.size b4.size))
  have H5 : Hd (∀ W, Below w5.heap.size w5 W → Bx W w4.heap.size s a4 n c4 L ∧ Below w2.heap.size w2 W) := ⟨fun W b => ⟨Bx.carry ⟨N5, l4.carry q5⟩ b, B5.trans (b.mono B5.size)⟩⟩
  clear B5 q5 N5 l4 b4 B3
  obtain ⟨x1, -⟩ := H5.out w5 (Below.refl _ _)
  obtain ⟨⟨c0, c1⟩, -⟩ := x1.1.lane
  have T := (TH.out w5 a4 c4 x1.2).1
  clear x1
  go_upto_region 6 with fail
  rw [← hw5]
  clear hw5
  generalize w4.heap.size = gm at *
  go_wp2_with fail
  go_at_call 10
  refine T.mono ?_
  rintro e w6 ⟨⟨v6, rfl, a6, c6, rfl, l6⟩, b6⟩
  clear T c0 c1
  obtain ⟨m6, hm6⟩ : ∃ m6, m6 = D1.length := ⟨_, rfl⟩
  have E6 : Hd (D1.length = m6) := ⟨hm6.symm⟩
  rw [← hm6]
  clear hm6
  obtain ⟨w7, hw7⟩ : ∃ w7, w7 = (w6.alloc (.cells #[.int .u64 zt, .slice a6 m6 c6] 25)).alloc (.cells #[.int .i64 u0, .int .i64 u1, .int .i64 u2, .int .i64 u3, .int .i64 u4] 27) := ⟨_, rfl⟩
  have BY := boxes w6 25 27 #[.int .u64 zt, .slice a6 m6 c6] #[.int .i64 u0, .int .i64 u1, .int .i64 u2, .int .i64 u3, .int .i64 u4]
  rw [← hw7] at BY
  obtain ⟨q7, N7, M7⟩ := BY
  have B7 : Below w5.heap.size w5 w7 := b6.trans (q7.mono b6.size)
  have H7 : Hd (∀ W, Below w7.heap.size w7 W → Bx W w6.heap.size zt a6 m6 c6 D1 ∧ Blk W (w6.heap.size + 1) 27 (tkA ⟨u0, u1, u2, u3, u4⟩) ∧ Below w5.heap.size w5 W) := ⟨fun W b => ⟨Bx.carry ⟨N7, l6.carry q7⟩ b, Blk.carry M7 b, B7.trans (b.mono B7.size)⟩⟩
  clear B7 q7 N7 M7 l6 b6
  obtain ⟨x1, -, -⟩ := H.out w7 (H5.out w7 (H7.out w7 (Below.refl _ _)).2.2).2
  obtain ⟨⟨c0, c1⟩, -⟩ := x1.1.lane
  have T := (TH.out w7 a c x1.2).2.1
  clear x1
  go_upto_region 7 with fail
  rw [← hw7]
  clear hw7
  generalize w6.heap.size = ga at *
  go_wp2_with fail
  go_at_call 11
  refine T.mono ?_
  rintro e w8 ⟨⟨v8, rfl, a8, c8, rfl, l8⟩, b8⟩
  clear T c0 c1
  obtain ⟨m8, hm8⟩ : ∃ m8, m8 = D1.length := ⟨_, rfl⟩
  have E8 : Hd (D1.length = m8) := ⟨hm8.symm⟩
  rw [← hm8]
  clear hm8
  obtain ⟨w9, hw9⟩ : ∃ w9, w9 = (w8.alloc (.cells #[.int .u64 zt, .slice a8 m8 c8] 25)).alloc (.cells #[.int .i64 u0, .int .i64 u1, .int .i64 u2, .int .i64 u3, .int .i64 u4] 27) := ⟨_, rfl⟩
  have BY := boxes w8 25 27 #[.int .u64 zt, .slice a8 m8 c8] #[.int .i64 u0, .int .i64 u1, .int .i64 u2, .int .i64 u3, .int .i64 u4]
  rw [← hw9] at BY
  obtain ⟨q9, N9, M9⟩ := BY
  have B9 : Below w7.heap.size w7 w9 := b8.trans (q9.mono b8.size)
  have H9 : Hd (∀ W, Below w9.heap.size w9 W → Bx W w8.heap.size zt a8 m8 c8 D1 ∧ Blk W (w8.heap.size + 1) 27 (tkA ⟨u0, u1, u2, u3, u4⟩) ∧ Below w7.heap.size w7 W) := ⟨fun W b => ⟨Bx.carry ⟨N9, l8.carry q9⟩ b, Blk.carry M9 b, B9.trans (b.mono B9.size)⟩⟩
  clear B9 q9 N9 M9 l8 b8
  obtain ⟨x1, x2⟩ := H5.out w9 (H7.out w9 (H9.out w9 (Below.refl _ _)).2.2).2.2
  obtain ⟨-, x3, -⟩ := H.out w9 x2
  obtain ⟨⟨c0, c1⟩, -⟩ := x1.1.lane
  obtain ⟨⟨d0, d1, d2, d3, d4⟩, -⟩ := x3.five
  simp only at d0 d1 d2 d3 d4
  have T := (TH.out w9 a4 c4 x1.2).2.2.1
  clear x1 x2 x3 d1 d2 d3 d4
  go_upto_region 8 with fail
  rw [← hw9]
  clear hw9
  generalize w8.heap.size = gb at *
  go_wp2_with fail
  go_at_call 12
  refine T.mono ?_
  rintro e w10 ⟨⟨v10, rfl, a10, c10, rfl, l10⟩, b10⟩
  clear T c0 c1 d0
  obtain ⟨m10, hm10⟩ : ∃ m10, m10 = D2.length := ⟨_, rfl⟩
  have E10 : Hd (D2.length = m10) := ⟨hm10.symm⟩
  rw [← hm10]
  clear hm10
  obtain ⟨w11, hw11⟩ : ∃ w11, w11 = (w10.alloc (.cells #[.int .u64 s, .slice a10 m10 c10] 25)).alloc (.cells #[.int .i64 y0, .int .i64 y1, .int .i64 y2, .int .i64 y3, .int .i64 y4] 27) := ⟨_, rfl⟩
  have BY := boxes w10 25 27 #[.int .u64 s, .slice a10 m10 c10] #[.int .i64 y0, .int .i64 y1, .int .i64 y2, .int .i64 y3, .int .i64 y4]
  rw [← hw11] at BY
  obtain ⟨q11, N11, M11⟩ := BY
  have B11 : Below w9.heap.size w9 w11 := b10.trans (q11.mono b10.size)
  have H11 : Hd (∀ W, Below w11.heap.size w11 W → Bx W w10.heap.size s a10 m10 c10 D2 ∧ Blk W (w10.heap.size + 1) 27 (tkA ⟨y0, y1, y2, y3, y4⟩) ∧ Below w9.heap.size w9 W) := ⟨fun W b => ⟨Bx.carry ⟨N11, l10.carry q11⟩ b, Blk.carry M11 b, B11.trans (b.mono B11.size)⟩⟩
  clear B11 q11 N11 M11 l10 b10
  obtain ⟨x1, x3, -⟩ := H.out w11 (H5.out w11 (H7.out w11 (H9.out w11 (H11.out w11 (Below.refl _ _)).2.2).2.2).2.2).2
  obtain ⟨⟨c0, c1⟩, -⟩ := x1.1.lane
  obtain ⟨⟨d0, d1, d2, d3, d4⟩, -⟩ := x3.five
  simp only at d0 d1 d2 d3 d4
  have T := (TH.out w11 a c x1.2).2.2.2.1
  clear x1 x3 d1 d2 d3 d4
  go_upto_region 9 with fail
  rw [← hw11]
  clear hw11
  generalize w10.heap.size = gc at *
  go_wp2_with fail
  go_at_call 13
  refine T.mono ?_
  rintro e w12 ⟨⟨v12, rfl, a12, c12, rfl, l12⟩, b12⟩
  clear T c0 c1 d0
  obtain ⟨m12, hm12⟩ : ∃ m12, m12 = D2.length := ⟨_, rfl⟩
  have E12 : Hd (D2.length = m12) := ⟨hm12.symm⟩
  rw [← hm12]
  clear hm12
  obtain ⟨w13, hw13⟩ : ∃ w13, w13 = (w12.alloc (.cells #[.int .u64 s, .slice a12 m12 c12] 25)).alloc (.cells #[.int .i64 y0, .int .i64 y1, .int .i64 y2, .int .i64 y3, .int .i64 y4] 27) := ⟨_, rfl⟩
  have BY := boxes w12 25 27 #[.int .u64 s, .slice a12 m12 c12] #[.int .i64 y0, .int .i64 y1, .int .i64 y2, .int .i64 y3, .int .i64 y4]
  rw [← hw13] at BY
  obtain ⟨q13, N13, M13⟩ := BY
  have B13 : Below w11.heap.size w11 w13 := b12.trans (q13.mono b12.size)
  have H13 : Hd (∀ W, Below w13.heap.size w13 W → Bx W w12.heap.size s a12 m12 c12 D2 ∧ Blk W (w12.heap.size + 1) 27 (tkA ⟨y0, y1, y2, y3, y4⟩) ∧ Below w11.heap.size w11 W) := ⟨fun W b => ⟨Bx.carry ⟨N13, l12.carry q13⟩ b, Blk.carry M13 b, B13.trans (b.mono B13.size)⟩⟩
  clear B13 q13 N13 M13 l12 b12
  obtain ⟨x1, -⟩ := H5.out w13 (H7.out w13 (H9.out w13 (H11.out w13 (H13.out w13 (Below.refl _ _)).2.2).2.2).2.2).2.2
  obtain ⟨⟨c0, c1⟩, -⟩ := x1.1.lane
  have T := (TH.out w13 a4 c4 x1.2).2.2.2.2.1
  clear x1
  go_upto_region 10 with fail
  rw [← hw13]
  clear hw13
  generalize w12.heap.size = gd at *
  have HA : Hd (∀ W, Below w13.heap.size w13 W → (Bx W ga zt a6 m6 c6 D1 ∧ Blk W (ga + 1) 27 (tkA ⟨u0, u1, u2, u3, u4⟩)) ∧ (Bx W gb zt a8 m8 c8 D1 ∧ Blk W (gb + 1) 27 (tkA ⟨u0, u1, u2, u3, u4⟩)) ∧ (Bx W gc s a10 m10 c10 D2 ∧ Blk W (gc + 1) 27 (tkA ⟨y0, y1, y2, y3, y4⟩)) ∧ (Bx W gd s a12 m12 c12 D2 ∧ Blk W (gd + 1) 27 (tkA ⟨y0, y1, y2, y3, y4⟩)) ∧ Bx W gm s a4 n c4 L ∧ (Bx W w.heap.size s a n c L ∧ Blk W (w.heap.size + 1) 27 (tkA ⟨t0, t1', t2, t3, t4⟩)) ∧ Below w.heap.size w W) := ⟨fun W b => by
    obtain ⟨p1, p2, p3⟩ := H13.out W b
    obtain ⟨p4, p5, p6⟩ := H11.out W p3
    obtain ⟨p7, p8, p9⟩ := H9.out W p6
    obtain ⟨r1, r2, r3⟩ := H7.out W p9
    obtain ⟨r4, r5⟩ := H5.out W r3
    obtain ⟨r6, r7, r8⟩ := H.out W r5
    exact ⟨⟨r1, r2⟩, ⟨p7, p8⟩, ⟨p4, p5⟩, ⟨p1, p2⟩, r4, ⟨r6, r7⟩, r8⟩⟩
  clear H H5 H7 H9 H11 H13
  go_wp2_with fail
  go_at_call 14
  refine T.mono ?_
  rintro e w14 ⟨rfl, b14⟩
  clear T c0 c1
  have B14 : Hd (Below w13.heap.size w13 w14) := ⟨b14⟩
  obtain ⟨-, -, -, -, -, x6, -⟩ := HA.out w14 b14
  obtain ⟨⟨c0, c1⟩, -⟩ := x6.1.1.lane
  have T := (TH.out w14 a c x6.1.2).2.2.2.2.2
  clear x6 b14 TH
  go_upto_region 11 with fail
  go_wp2_with fail
  go_at_call 15
  refine T.mono ?_
  rintro e w15 ⟨rfl, b15⟩
  clear T c0 c1
  have B15 : Hd (Below w13.heap.size w13 w15) := ⟨B14.out.trans (b15.mono B14.out.size)⟩
  clear b15 B14
  obtain ⟨x1, x2, -, -, -, -, -⟩ := HA.out w15 B15.out
  have T := SH.out w15 zt a6 a8 m6 m8 c6 c8 D1 HLs.out.1 E6.out E8.out x1.1.2 x2.1.2
  obtain ⟨⟨c0, c1⟩, -⟩ := x1.1.1.lane
  obtain ⟨⟨d0, d1⟩, -⟩ := x2.1.1.lane
  clear x1 x2
  go_upto_region 12 with fail
  go_wp2_with fail
  go_at_call 16
  refine T.mono ?_
  rintro e w16 ⟨rfl, b16⟩
  clear T c0 c1 d0 d1
  have B16 : Hd (Below w13.heap.size w13 w16) := ⟨B15.out.trans (b16.mono B15.out.size)⟩
  clear b16 B15
  obtain ⟨x1, x2, x3, x4, -, -, -⟩ := HA.out w16 B16.out
  have T := SH.out w16 s a10 a12 m10 m12 c10 c12 D2 HLs.out.2.1 E10.out E12.out x3.1.2 x4.1.2
  obtain ⟨⟨c0, c1, c2, c3, c4'⟩, -⟩ := x1.2.five
  obtain ⟨⟨d0, d1, d2, d3, d4⟩, -⟩ := x2.2.five
  obtain ⟨⟨e0, e1⟩, -⟩ := x3.1.1.lane
  obtain ⟨⟨f0, f1⟩, -⟩ := x4.1.1.lane
  clear x1 x2 x3 x4
  simp only at c0 c1 c2 c3 c4' d0 d1 d2 d3 d4
  go_wp2_with fail
  go_at_call 16
  refine T.mono ?_
  rintro e w17 ⟨rfl, b17⟩
  clear T c0 c1 c2 c3 c4' d0 d1 d2 d3 d4 e0 e1 f0 f1
  have B17 : Hd (Below w13.heap.size w13 w17) := ⟨B16.out.trans (b17.mono B16.out.size)⟩
  clear b17 B16
  obtain ⟨-, -, x3, x4, -, -, -⟩ := HA.out w17 B17.out
  obtain ⟨⟨c0, c1, c2, c3, c4'⟩, -⟩ := x3.2.five
  obtain ⟨⟨d0, d1, d2, d3, d4⟩, -⟩ := x4.2.five
  clear x3 x4
  simp only at c0 c1 c2 c3 c4' d0 d1 d2 d3 d4
  go_upto_region 14 with fail
  clear c0 c1 c2 c3 c4' d0 d1 d2 d3 d4
  have HD : Hd (Below w13.heap.size w13 w17.drew) := ⟨B17.out.drew⟩
  refine AnyG.start (T := fun W => Below w17.drew.heap.size w17.drew W) (U := fun _ => True) (j0 := 100) (by kernel_rfl) ?_
  generalize w17.drew = w18 at *
  clear B17
  have HC : Hd (∀ W, Below w18.heap.size w18 W → Bx W gm s a4 n c4 L ∧ (Bx W w.heap.size s a n c L ∧ Blk W (w.heap.size + 1) 27 (tkA ⟨t0, t1', t2, t3, t4⟩)) ∧ Below w.heap.size w W) := ⟨fun W b => by
    obtain ⟨-, -, -, -, p5, p6, p7⟩ := HA.out W (HD.out.trans (b.mono HD.out.size))
    exact ⟨p5, p6, p7⟩⟩
  clear HA HD
  have X0 : Hd (∀ W, Below w18.heap.size w18 W → W.cell? ⟨gm, 0, none⟩ = some (.int .u64 s) ∧ W.cell? ⟨gm, 1, none⟩ = some (.slice a4 n c4)) := ⟨fun W q => (HC.out W q).1.1.lane.1⟩
  have X2 : Hd (∀ W, Below w18.heap.size w18 W → W.cell? ⟨w.heap.size, 0, none⟩ = some (.int .u64 s) ∧ W.cell? ⟨w.heap.size, 1, none⟩ = some (.slice a n c)) := ⟨fun W q => (HC.out W q).2.1.1.1.lane.1⟩
  have X1 : Hd (∀ W, Below w18.heap.size w18 W → W.cell? ⟨w.heap.size + 1, 0, none⟩ = some (.int .i64 t0) ∧ W.cell? ⟨w.heap.size + 1, 1, none⟩ = some (.int .i64 t1') ∧ W.cell? ⟨w.heap.size + 1, 2, none⟩ = some (.int .i64 t2) ∧ W.cell? ⟨w.heap.size + 1, 3, none⟩ = some (.int .i64 t3) ∧ W.cell? ⟨w.heap.size + 1, 4, none⟩ = some (.int .i64 t4)) := ⟨fun W q => (HC.out W q).2.1.2.five.1⟩
  have R18 := Below.refl w18.heap.size w18
  refine .tq 0 118 R18 ?_ (hy := fun w hSw => by have s := X0.out w hSw; go_simp; rfl); simp only [oqA, oqB, oqC]
  refine .tq 1 119 R18 ?_; simp only [oqA, oqB, oqC]
  refine .tq 2 120 R18 ?_ (hy := fun w hSw => by have s := X1.out w hSw; go_simp; rfl); simp only [oqA, oqB, oqC]
  refine .tq 4 122 R18 ?_ (hy := fun w hSw => by have s := X2.out w hSw; go_simp; rfl); simp only [oqA, oqB, oqC]
  refine .tq 5 123 R18 ?_; simp only [oqA, oqB, oqC]
  refine .tq 6 124 R18 ?_ (hy := fun w hSw => by have s := X1.out w hSw; go_simp; rfl); simp only [oqA, oqB, oqC]
  have T := (JH.out w18 a4 c4 (HC.out w18 R18).1.2).1
  refine AnyG.ready (rs := [3]) (by kernel_rfl) (by simp) ?_
  refine AllG.cons rfl (fun K hK => ?_) AllG.nil
  go_simp
  refine T.mono ?_
  rintro e w19 ⟨⟨v19, rfl, a19, c19, rfl, l19⟩, b19⟩
  have R19 := R18.trans (b19.mono R18.size)
  refine hK.out _ _ ⟨R19, fun _ => trivial⟩ ?_
  clear hK K T
  have T := (JH.out w19 a c (HC.out w19 R19).2.1.1.2).2.1
  refine AnyG.ready (rs := [7]) (by kernel_rfl) (by simp) ?_
  refine AllG.cons rfl (fun K hK => ?_) AllG.nil
  go_simp
  refine T.mono ?_
  rintro e w20 ⟨⟨v20, rfl, a20, c20, rfl, l20⟩, b20⟩
  have R20 := R19.trans (b20.mono R19.size)
  refine hK.out _ _ ⟨R20, fun _ => trivial⟩ ?_
  clear hK K T
  have T := SH.out w20 zj a19 a20 D3.length D3.length c19 c20 D3 HLs.out.2.2.1 rfl rfl (l19.carry b20) l20
  refine AnyG.ready (rs := [8]) (by kernel_rfl) (by simp) ?_
  refine AllG.cons rfl (fun K hK => ?_) AllG.nil
  go_simp
  refine T.mono ?_
  rintro e w21 ⟨rfl, b21⟩
  have R21 := R20.trans (b21.mono R20.size)
  refine hK.out _ _ ⟨R21, fun _ => trivial⟩ ?_
  clear hK K T l19 l20
  refine .tq 9 127 R21 ?_; simp only [oqA, oqB, oqC]
  refine .tq 10 128 R21 ?_ (hy := fun w hSw => by have s := X0.out w hSw; go_simp; rfl); simp only [oqA, oqB, oqC]
  refine .tq 11 129 R21 ?_; simp only [oqA, oqB, oqC]
  refine .tq 13 131 R21 ?_ (hy := fun w hSw => by have s := X2.out w hSw; go_simp; rfl); simp only [oqA, oqB, oqC]
  refine .tq 14 132 R21 ?_; simp only [oqA, oqB, oqC]
  have T := (JH.out w21 a4 c4 (HC.out w21 R21).1.2).2.2.1
  refine AnyG.ready (rs := [12]) (by kernel_rfl) (by simp) ?_
  refine AllG.cons rfl (fun K hK => ?_) AllG.nil
  go_simp
  refine T.mono ?_
  rintro e w22 ⟨v22, rfl, o22, b22⟩
  have R22 := R21.trans (b22.mono R21.size)
  refine hK.out _ _ ⟨R22, fun _ => trivial⟩ ?_
  clear hK K T
  obtain ⟨a22, c22, rfl, l22⟩ := o22.read
  clear o22
  have T := (JH.out w22 a c (HC.out w22 R22).2.1.1.2).2.2.2.1
  refine AnyG.ready (rs := [15]) (by kernel_rfl) (by simp) ?_
  refine AllG.cons rfl (fun K hK => ?_) AllG.nil
  go_simp
  refine T.mono ?_
  rintro e w23 ⟨v23, rfl, o23, b23⟩
  have R23 := R22.trans (b23.mono R22.size)
  refine hK.out _ _ ⟨R23, fun _ => trivial⟩ ?_
  clear hK K T
  obtain ⟨a23, c23, rfl, l23⟩ := o23.read
  clear o23
  have T := ST.out w23 a22 a23 D4.length D4.length c22 c23 D4 HLs.out.2.2.2.1 rfl rfl (l22.carry b23) l23
  refine AnyG.ready (rs := [16]) (by kernel_rfl) (by simp) ?_
  refine AllG.cons rfl (fun K hK => ?_) AllG.nil
  go_simp
  refine T.mono ?_
  rintro e w24 ⟨rfl, b24⟩
  have R24 := R23.trans (b24.mono R23.size)
  refine hK.out _ _ ⟨R24, fun _ => trivial⟩ ?_
  clear hK K T l22 l23
  refine .tq 17 135 R24 ?_; simp only [oqA, oqB, oqC]
  refine .tq 18 136 R24 ?_; simp only [oqA, oqB, oqC]
  refine .tq 19 137 R24 ?_ (hy := fun w hSw => by have s := X0.out w hSw; go_simp; rfl); simp only [oqA, oqB, oqC]
  refine .tq 21 139 R24 ?_ (hy := fun w hSw => by have s := X2.out w hSw; go_simp; rfl); simp only [oqA, oqB, oqC]
  have T := (JH.out w24 a4 c4 (HC.out w24 R24).1.2).2.2.2.2.1
  refine AnyG.ready (rs := [20]) (by kernel_rfl) (by simp) ?_
  refine AllG.cons rfl (fun K hK => ?_) AllG.nil
  go_simp
  refine T.mono ?_
  rintro e w25 ⟨rfl, b25⟩
  have R25 := R24.trans (b25.mono R24.size)
  refine hK.out _ _ ⟨R25, fun _ => trivial⟩ ?_
  clear hK K T
  have T := (JH.out w25 a c (HC.out w25 R25).2.1.1.2).2.2.2.2.2
  refine AnyG.ready (rs := [22]) (by kernel_rfl) (by simp) ?_
  refine AllG.cons rfl (fun K hK => ?_) AllG.nil
  go_simp
  refine T.mono ?_
  rintro e w26 ⟨rfl, b26⟩
  have R26 := R25.trans (b26.mono R25.size)
  refine hK.out _ _ ⟨R26, fun _ => trivial⟩ ?_
  clear hK K T
  refine .tq (v := .bool true) 23 141 R26 ?_ (hy := fun w hSw => by go_simp; first | done | simp); simp only [oqA, oqB, oqC]
  refine .tq 24 142 R26 ?_; simp only [oqA, oqB, oqC]
  refine .tq 25 143 R26 ?_; simp only [oqA, oqB, oqC]
  refine .tq 26 144 R26 ?_ (hy := fun w hSw => by have s := X0.out w hSw; go_simp; rfl); simp only [oqA, oqB, oqC]
  refine .tq 27 145 R26 ?_ (hy := fun w hSw => by have s := X2.out w hSw; go_simp; rfl); simp only [oqA, oqB, oqC]
  have T := SH.out w26 s a4 a n n c4 c L HLs.out.2.2.2.2 HN.out HN.out (HC.out w26 R26).1.2 (HC.out w26 R26).2.1.1.2
  refine AnyG.ready (rs := [28]) (by kernel_rfl) (by simp) ?_
  refine AllG.cons rfl (fun K hK => ?_) AllG.nil
  go_simp
  refine T.mono ?_
  rintro e w27 ⟨rfl, b27⟩
  have R27 := R26.trans (b27.mono R26.size)
  refine hK.out _ _ ⟨R27, fun _ => trivial⟩ ?_
  clear hK K T
  refine .tq 29 147 R27 ?_; simp only [oqA, oqB, oqC]
  refine AnyG.ready (rs := [30]) (by kernel_rfl) (by simp) ?_
  refine AllG.cons rfl (fun K hK => ?_) AllG.nil
  go_simp
  refine hK.out _ _ ⟨R27, fun _ => trivial⟩ ?_
  clear hK K
  refine AnyG.done (by kernel_rfl) ?_ _
  have Q : Hd _ := ⟨(HC.out w27 R27).2.2⟩
  clear X0 X1 X2 HC
  go_wp2_with fail
  go_ret
  exact ⟨rfl, Q.out⟩
end Go.Proofs.Ytbnjjckcnlfapaa
