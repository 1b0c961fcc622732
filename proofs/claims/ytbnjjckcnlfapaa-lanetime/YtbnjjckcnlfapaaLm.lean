/-
  The walk of 'LaneTime'. Conditions: the lane lies in memory, its time and the other one are words.
-/
import Derived.Test.YtbnjjckcnlfapaaLr
import Derived.Test.YtbnjjckcnlfapaaDr
namespace Go.Proofs.Ytbnjjckcnlfapaa
open Go.RowKit

theorem jnS_lo {s r : Int} {L : List Tk} : s ≤ jnS s r L := by unfold jnS; split <;> omega
theorem jnS_hi {s r : Int} {L : List Tk} (h1 : s ≤ 4611686018427387904) (h2 : r ≤ 4611686018427387904) : jnS s r L ≤ 4611686018427387904 := by unfold jnS; split <;> omega
/-- The finish of a lane below the cap. -/
theorem fin_cap {x k : Int} (h1 : x ≤ 4611686018427387904) (k1 : 1 ≤ k) (k2 : k ≤ 16000) : x ≤ addI x k ∧ (x < addI x k ∨ addI x k = 4611686018427387904) ∧ addI x k ≤ 4611686018427387904 := by
  unfold addI capI
  rw [if_pos h1, if_pos (by omega : k ≤ 4611686018427387904)]
  split <;> omega
theorem add_zero_cap {f : Int} (h : f ≤ 4611686018427387904) : addI f 0 = f := by
  have h0 : (0 : Int) ≤ 4611686018427387904 := by decide
  unfold addI capI
  rw [if_pos h, if_pos h0, Int.add_zero, if_pos h]

set_option maxRecDepth 20000 in
set_option maxHeartbeats 4000000 in
theorem time_law (s r : Int) (a : Option Addr) (c : Nat) (L : List Tk) (t : Tk) (g : Int) (w : World) (hs : Word s) (hr : Word r) (h : SlR w a c L) :
    Calls Try.prog 6 #[.agg #[.int .u64 s, .slice a L.length c], .int .u64 r, .agg #[.int .i64 t.id, .int .i64 t.wid, .int .i64 t.sts, .int .i64 t.sin, .int .i64 t.unt], .int .i64 g] w fun e w' => e = .returned (.bool true) ∧ Below w.heap.size w w' := by
  obtain ⟨w2, hw2⟩ : ∃ w2, w2 = (w.alloc (.cells #[.int .u64 s, .slice a L.length c] 25)).alloc (.cells #[.int .i64 t.id, .int .i64 t.wid, .int .i64 t.sts, .int .i64 t.sin, .int .i64 t.unt] 27) := ⟨_, rfl⟩
  have BX := boxes w 25 27 #[.int .u64 s, .slice a L.length c] #[.int .i64 t.id, .int .i64 t.wid, .int .i64 t.sts, .int .i64 t.sin, .int .i64 t.unt]
  rw [← hw2] at BX
  obtain ⟨B, N1, N2⟩ := BX
  have I := awake_ok w2
  have H : Hd (∀ W, Below w2.heap.size w2 W → Blk W w.heap.size 25 (lnA s (.slice a L.length c)) ∧ Blk W (w.heap.size + 1) 27 (tkA t) ∧ SlR W a c L ∧ Below w.heap.size w W) := ⟨fun W b => ⟨N1.kept (Kept.of_below b (fun _ => False)) id, N2.kept (Kept.of_below b (fun _ => False)) id, (h.carry B).carry b, B.trans (b.mono B.size)⟩⟩
  clear B N1 N2 h
  by_cases t1 : (1000 : Int) < (L.length : Int)
  · obtain ⟨n, hn⟩ : ∃ n, n = L.length := ⟨_, rfl⟩
    rw [← hn] at t1 hw2 H ⊢
    clear hn
    go_enter Try.func6, Try.ntmps6
    go_upto_region 1 with fail
    rw [← hw2]
    clear hw2
    go_upto_region 3 with (go_at_call 8; refine I.mono ?_; rintro e w3 ⟨rfl, b3⟩)
    obtain ⟨x1, -, -, x4⟩ := H.out w3 b3
    obtain ⟨⟨c0, c1⟩, -⟩ := x1.lane
    have Q : Hd _ := ⟨x4⟩
    clear x1 x4 b3 I H
    go_wp2_with fail
    go_ret
    exact ⟨rfl, Q.out⟩
  by_cases t2 : (4611686018427387904 : Int) < s
  · obtain ⟨n, hn⟩ : ∃ n, n = L.length := ⟨_, rfl⟩
    rw [← hn] at t1 hw2 H ⊢
    clear hn
    go_enter Try.func6, Try.ntmps6
    go_upto_region 1 with fail
    rw [← hw2]
    clear hw2
    go_upto_region 3 with (go_at_call 8; refine I.mono ?_; rintro e w3 ⟨rfl, b3⟩)
    obtain ⟨x1, -, -, x4⟩ := H.out w3 b3
    obtain ⟨⟨c0, c1⟩, -⟩ := x1.lane
    have Q : Hd _ := ⟨x4⟩
    clear x1 x4 b3 I H
    go_wp2_with fail
    go_ret
    exact ⟨rfl, Q.out⟩
  have hl : L.length ≤ 1000 := by omega
  have s0 := hs.1
  have hm : Word (min r 4611686018427387904) := ⟨by have := hr.1; omega, by omega⟩
  have JH : Hd (∀ W, SlR W a c L → Calls Try.prog 17 #[.agg #[.int .u64 s, .slice a L.length c], .int .u64 (min r 4611686018427387904), .agg #[.int .i64 t.id, .int .i64 t.wid, .int .i64 t.sts, .int .i64 t.sin, .int .i64 t.unt]] W fun e w' => (∃ v, e = .returned v ∧ LnV w' (jnS s (min r 4611686018427387904) L) (L ++ [t]) v) ∧ Below W.heap.size W w') := ⟨fun W q => join_ok s (min r 4611686018427387904) a c L t W q (by omega)⟩
  have xw : Word (jnS s (min r 4611686018427387904) L) := jnS_word hs hm
  have y1 : s ≤ jnS s (min r 4611686018427387904) L := jnS_lo
  have y2 : jnS s (min r 4611686018427387904) L ≤ 4611686018427387904 := jnS_hi (by omega) (by omega)
  generalize jnS s (min r 4611686018427387904) L = x at *
  have hne : L ++ [t] ≠ [] := by simp
  have hl' : (L ++ [t]).length ≤ 2000 := by simp; omega
  have HE : hasI (L ++ [t]) = true ∧ tkS x (L ++ [t]) g = finI x (L ++ [t]) g := ⟨hasI_some hne, tkS_some hne⟩
  have FC := fin_cap (x := x) (k := wrk (gt (L ++ [t]) 0).wid g) y2 (wrk_lo _ _) (wrk_hi _ _)
  rw [← finI_some hne] at FC
  have TH : Hd (∀ W a1 c1, SlR W a1 c1 (L ++ [t]) → (Calls Try.prog 10 #[.agg #[.int .u64 x, .slice a1 (L ++ [t]).length c1], .int .i64 g] W fun e w' => (∃ v q0 q1 q2 q3 q4, e = .returned (.tuple #[v, .agg #[.int .i64 q0, .int .i64 q1, .int .i64 q2, .int .i64 q3, .int .i64 q4], .bool true]) ∧ ∃ D, LnV w' (finI x (L ++ [t]) g) D v) ∧ Below W.heap.size W w')
      ∧ (Calls Try.prog 12 #[.agg #[.int .u64 x, .slice a1 (L ++ [t]).length c1], .int .i64 t.id] W fun e w' => (∃ v q0 q1 q2 q3 q4 b, e = .returned (.tuple #[v, .agg #[.int .i64 q0, .int .i64 q1, .int .i64 q2, .int .i64 q3, .int .i64 q4], .bool b]) ∧ ∃ D, LnV w' x D v) ∧ Below W.heap.size W w')
      ∧ (Calls Try.prog 14 #[.agg #[.int .u64 x, .slice a1 (L ++ [t]).length c1], .int .i64 g] W fun e w' => e = .returned (.tuple #[.int .u64 (finI x (L ++ [t]) g), .bool true]) ∧ Below W.heap.size W w')) := ⟨fun W a1 c1 q => ⟨(take_ok x a1 c1 (L ++ [t]) g W xw q hl').mono (fun e w' hh => by
        obtain ⟨⟨v, e1, e2⟩, e3⟩ := hh
        rw [HE.1] at e1
        rw [HE.2] at e2
        exact ⟨⟨v, _, _, _, _, _, e1, _, e2⟩, e3⟩), (drop_ok x a1 c1 (L ++ [t]) t.id W q hl').mono (fun e w' hh => by
        obtain ⟨⟨v, e1, e2⟩, e3⟩ := hh
        exact ⟨⟨v, _, _, _, _, _, _, e1, _, e2⟩, e3⟩), by
        have := finish_ok x a1 c1 (L ++ [t]) g W xw q.2.2 hl'
        rwa [HE.1] at this⟩⟩
  have AH : Hd (∀ W, Calls Try.prog 24 #[.int .u64 (finI x (L ++ [t]) g), .int .u64 0] W fun e w' => e = .returned (.int .u64 (finI x (L ++ [t]) g)) ∧ w' = W) := ⟨fun W => by
    have := add_any (finI x (L ++ [t]) g) 0 W (finI_word xw) ⟨by decide, by decide⟩
    rwa [add_zero_cap FC.2.2] at this⟩
  generalize finI x (L ++ [t]) g = f at *
  clear HE xw hl' hne hs
  obtain ⟨r1, r2⟩ := hr
  obtain ⟨-, -⟩ := hm
  obtain ⟨t0, t1', t2', t3, t4⟩ := t
  simp only at *
  obtain ⟨n, hn⟩ : ∃ n, n = L.length := ⟨_, rfl⟩
  rw [← hn] at t1 hw2 H JH hl ⊢
  clear hn
  have g1 : decide (s ≤ x) = true := decide_eq_true y1
  have g2 : decide (x ≤ f) = true := decide_eq_true FC.1
  have fw : 0 ≤ f := by omega
  have t1f : ¬ (1000 : Int) < (n : Int) := t1
  have HFC : Hd (x < f ∨ f = 4611686018427387904) := ⟨FC.2.1⟩
  clear FC y1 y2 t1f
  go_enter Try.func6, Try.ntmps6
  go_upto_region 1 with fail
  rw [← hw2]
  clear hw2
  go_upto_region 3 with (go_at_call 8; refine I.mono ?_; rintro e w3 ⟨rfl, b3⟩)
  obtain ⟨x1, x2, x3, x4⟩ := H.out w3 b3
  obtain ⟨⟨c0, c1⟩, -⟩ := x1.lane
  obtain ⟨⟨d0, d1, d2, d3, d4⟩, -⟩ := x2.five
  have J := JH.out w3 x3
  have B3 : Hd (Below w2.heap.size w2 w3) := ⟨b3⟩
  clear x1 x2 x3 x4 b3 I JH
  simp only at d0 d1 d2 d3 d4
  go_upto_region 5 with fail
  go_wp2_with fail
  go_at_call 17
  refine J.mono ?_
  rintro e w4 ⟨⟨v4, rfl, a4, c4, rfl, l4⟩, b4⟩
  clear c0 c1 d0 d1 d2 d3 d4 J
  obtain ⟨m, hm⟩ : ∃ m, m = (L ++ [(⟨t0, t1', t2', t3, t4⟩ : Tk)]).length := ⟨_, rfl⟩
  rw [← hm] at TH ⊢
  clear hm
  obtain ⟨w5, hw5⟩ : ∃ w5, w5 = w4.alloc (.cells #[.int .u64 x, .slice a4 m c4] 25) := ⟨_, rfl⟩
  have q5 : Below w4.heap.size w4 w5 := by rw [hw5]; exact alloc_below _ _
  have N5 : Blk w5 w4.heap.size 25 (lnA x (.slice a4 m c4)) := by rw [hw5]; exact Blk.new _ _ _
  have B5 : Below w2.heap.size w2 w5 := (B3.out.trans (b4.mono B3.out.size)).trans (q5.mono (Nat.le_trans B3.out.size b4.size))
  have H5 : Hd (∀ W, Below w5.heap.size w5 W → Blk W w4.heap.size 25 (lnA x (.slice a4 m c4)) ∧ SlR W a4 c4 (L ++ [(⟨t0, t1', t2', t3, t4⟩ : Tk)]) ∧ Below w2.heap.size w2 W) := ⟨fun W b => ⟨N5.kept (Kept.of_below b (fun _ => False)) id, (l4.carry q5).carry b, B5.trans (b.mono B5.size)⟩⟩
  obtain ⟨z1, z2, -⟩ := H5.out w5 (Below.refl _ _)
  obtain ⟨⟨c0, c1⟩, -⟩ := z1.lane
  have T := (TH.out w5 a4 c4 z2).1
  clear B5 q5 N5 l4 b4 B3 z1 z2
  go_upto_region 6 with fail
  rw [← hw5]
  clear hw5
  generalize w4.heap.size = g9 at *
  go_wp2_with fail
  go_at_call 10
  refine T.mono ?_
  rintro e w6 ⟨⟨v6, q0, q1, q2, q3, q4, rfl, D6, a6, c6, rfl, l6⟩, b6⟩
  clear l6 T c0 c1
  generalize D6.length = m6
  obtain ⟨w7, hw7⟩ : ∃ w7, w7 = (w6.alloc (.cells #[.int .u64 f, .slice a6 m6 c6] 25)).alloc (.cells #[.int .i64 q0, .int .i64 q1, .int .i64 q2, .int .i64 q3, .int .i64 q4] 27) := ⟨_, rfl⟩
  have BY := boxes w6 25 27 #[.int .u64 f, .slice a6 m6 c6] #[.int .i64 q0, .int .i64 q1, .int .i64 q2, .int .i64 q3, .int .i64 q4]
  rw [← hw7] at BY
  obtain ⟨q7, N7, -⟩ := BY
  have B7 : Below w5.heap.size w5 w7 := b6.trans (q7.mono b6.size)
  have H7 : Hd (∀ W, Below w7.heap.size w7 W → Blk W w6.heap.size 25 (lnA f (.slice a6 m6 c6)) ∧ Below w5.heap.size w5 W) := ⟨fun W b => ⟨N7.kept (Kept.of_below b (fun _ => False)) id, B7.trans (b.mono B7.size)⟩⟩
  obtain ⟨z1, z2, z3⟩ := H5.out w7 B7
  obtain ⟨-, z4, -, -⟩ := H.out w7 z3
  obtain ⟨⟨c0, c1⟩, -⟩ := z1.lane
  obtain ⟨⟨d0, d1, d2, d3, d4⟩, -⟩ := z4.five
  have T := (TH.out w7 a4 c4 z2).2.1
  clear B7 q7 N7 b6 z1 z2 z3 z4
  simp only at d0 d1 d2 d3 d4
  go_upto_region 7 with fail
  rw [← hw7]
  clear hw7
  generalize w6.heap.size = g10 at *
  go_wp2_with fail
  go_at_call 12
  refine T.mono ?_
  rintro e w8 ⟨⟨v8, p0, p1, p2, p3, p4, b8', rfl, D8, a8, c8, rfl, l8⟩, b8⟩
  clear l8 T c0 c1 d0 d1 d2 d3 d4
  generalize D8.length = m8
  obtain ⟨w9, hw9⟩ : ∃ w9, w9 = (w8.alloc (.cells #[.int .u64 x, .slice a8 m8 c8] 25)).alloc (.cells #[.int .i64 p0, .int .i64 p1, .int .i64 p2, .int .i64 p3, .int .i64 p4] 27) := ⟨_, rfl⟩
  have BY := boxes w8 25 27 #[.int .u64 x, .slice a8 m8 c8] #[.int .i64 p0, .int .i64 p1, .int .i64 p2, .int .i64 p3, .int .i64 p4]
  rw [← hw9] at BY
  obtain ⟨q9, N9, -⟩ := BY
  have B9 : Below w7.heap.size w7 w9 := b8.trans (q9.mono b8.size)
  have H9 : Hd (∀ W, Below w9.heap.size w9 W → Blk W w8.heap.size 25 (lnA x (.slice a8 m8 c8)) ∧ Below w7.heap.size w7 W) := ⟨fun W b => ⟨N9.kept (Kept.of_below b (fun _ => False)) id, B9.trans (b.mono B9.size)⟩⟩
  obtain ⟨z1, z2, z3⟩ := H5.out w9 (H7.out w9 B9).2
  obtain ⟨⟨c0, c1⟩, -⟩ := z1.lane
  have T := (TH.out w9 a4 c4 z2).2.2
  clear B9 q9 N9 b8 z1 z2 z3
  go_upto_region 8 with fail
  rw [← hw9]
  clear hw9
  generalize w8.heap.size = g13 at *
  go_wp2_with fail
  go_at_call 14
  refine T.mono ?_
  rintro e wa ⟨rfl, ba⟩
  clear T c0 c1
  obtain ⟨k1, k2⟩ := H9.out wa ba
  obtain ⟨k3, k4⟩ := H7.out wa k2
  obtain ⟨k5, -, k6⟩ := H5.out wa k4
  obtain ⟨k7, -, -, k8⟩ := H.out wa k6
  obtain ⟨⟨c0, -⟩, -⟩ := k1.lane
  obtain ⟨⟨d0, -⟩, -⟩ := k3.lane
  obtain ⟨⟨e0, -⟩, -⟩ := k5.lane
  obtain ⟨⟨f0, -⟩, -⟩ := k7.lane
  have Q : Hd _ := ⟨k8⟩
  clear k1 k2 k3 k4 k5 k6 k7 k8 H9 H7 H5 H TH ba
  rcases HFC.out with hx | hx
  · have g3 : decide (x < f) = true := decide_eq_true hx
    clear HFC
    go_wp2_with (go_at_call 24; refine (AH.out _).mono ?_; rintro e wb ⟨rfl, rfl⟩)
    go_ret
    exact ⟨rfl, Q.out⟩
  · by_cases g3' : x < f
    · have g3 : decide (x < f) = true := decide_eq_true g3'
      clear HFC hx
      go_wp2_with (go_at_call 24; refine (AH.out _).mono ?_; rintro e wb ⟨rfl, rfl⟩)
      go_ret
      exact ⟨rfl, Q.out⟩
    · have g3 : decide (x < f) = false := decide_eq_false g3'
      have g4 : (f == 4611686018427387904) = true := by simpa using hx
      clear HFC hx g3'
      go_wp2_with (go_at_call 24; refine (AH.out _).mono ?_; rintro e wb ⟨rfl, rfl⟩)
      go_ret
      exact ⟨rfl, Q.out⟩
end Go.Proofs.Ytbnjjckcnlfapaa
