/-
  Whoever waits is taken at last, and lanes that are shut go as they are empty: the walk. Conditions: the turns lie in memory.
-/
import Derived.Test.YtemmkkcfjhmomaaRw
import Derived.Test.YtemmkkcfjhmomaaDm
import Derived.Test.YtemmkkcfjhmomaaAw
namespace Go.Proofs.Ytemmkkcfjhmomaa
open Go.RowKit

/-- A fair in a box that is written anew. -/
structure FB (w W : World) (A : Nat) (x : Fa) : Prop where
  bel : Below w.heap.size w W
  lA : w.heap.size ≤ A
  box : ∃ a c, Blk W A 25 (faA x.r x.g x.n x.o (.slice a x.F.length c)) ∧ StR (fun j => j = A) W a c x.F
theorem FB.lt {w W : World} {A : Nat} {x : Fa} (h : FB w W A x) : A < W.heap.size := by
  obtain ⟨a, c, k, -⟩ := h.box
  exact k.lt
theorem FB.carry {w W W' : World} {A : Nat} {x : Fa} (h : FB w W A x) (b : Below W.heap.size W W') : FB w W' A x := by
  obtain ⟨a, c, k1, k2⟩ := h.box
  exact ⟨h.bel.trans (b.mono h.bel.size), h.lA, a, c, k1.kept (Kept.of_below b (fun _ => False)) id, k2.step (Kept.of_below b _) (fun _ _ e => e)⟩
theorem FB.put {w W W' : World} {A : Nat} {x y : Fa} (h : FB w W A x) {a : Option Addr} {c : Nat} (k : Kept (fun j => j = A) W W') (hb : Blk W' A 25 (faA y.r y.g y.n y.o (.slice a y.F.length c))) (hy : StR (fun j => j = A) W a c y.F) : FB w W' A y := by
  have lA := h.lA
  exact ⟨h.bel.trans (k.below h.bel.size (fun j e => by omega)), h.lA, a, c, hb, hy.step k (fun _ _ e => e)⟩
/-- What holds of lanes that are emptied. -/
structure DrI (x : Fa) (n k : Nat) : Prop where
  few : Few x.F
  o0 : x.o = 0
  tr : ∃ Y, x.F = trm Y 0
  wt : wtA x.F = (n : Int) - (k : Int)
theorem DrI.next {x : Fa} {n k : Nat} (h : DrI x n k) (hk : k < n) : ∃ p : Nat, nxt x.F x.g = p ∧ p < x.F.length ∧ (gl x.F p).L ≠ [] ∧ DrI (tkX x) n (k + 1) := by
  obtain ⟨p, e, hp, hne⟩ := nxt_some (F := x.F) (g := x.g) (by have := h.wt; omega)
  obtain ⟨-, -, h3, h4, -, h6, -⟩ := tk_less e hp hne
  exact ⟨p, e, hp, hne, tkX_few h.few, by rw [h3]; exact h.o0, ⟨tkF x.F p x.g, by rw [h4, h.o0]⟩, by rw [h6, h.wt]; omega⟩
theorem DrI.last {x : Fa} {n : Nat} (h : DrI x n n) : x.F.length = 0 ∧ stA x.F = 0 ∧ nxt x.F x.g = -1 := by
  have h0 : wtA x.F = 0 := by rw [h.wt]; omega
  refine ⟨?_, st_zero h0, nxt_no h0⟩
  obtain ⟨Y, e⟩ := h.tr
  rw [e] at h0 ⊢
  rw [trm_gone h0]
  rfl

set_option maxRecDepth 20000 in
set_option maxHeartbeats 2000000 in
theorem drains_law (o g : Int) (a : Option Addr) (n c : Nat) (H : Nat → Tn) (w : World) (h : TnR w a n H) (hn : n ≤ 9223372036854775807) :
    Calls Try.prog 7 #[.int .i64 o, .int .i64 g, .slice a n c] w fun e w' => e = .returned (.bool true) ∧ Below w.heap.size w w' := by
  have I := awake_ok w
  by_cases hg : Good o g 64
  · obtain ⟨m, hm⟩ : ∃ m, m = min n 300 := ⟨_, rfl⟩
    have HM : Hd (m ≤ 300) := ⟨by omega⟩
    have RU : Hd (∀ W, Below w.heap.size w W → Calls Try.prog 33 #[.int .i64 o, .int .i64 g, .slice a n c] W fun e w' => RunA w' o g H m e ∧ Below W.heap.size W w') := ⟨fun W q => by rw [hm]; exact run_yes o g a n c H W (h.carry q) hn hg⟩
    have HIV : Hd (∀ k, k ≤ m → Few (rX o g H k).F) := ⟨fun k hk => ((Iv.run hg (Int.le_refl 16) k (by have := HM.out; omega) (fun i _ => clW_hi _)).few (by have := HM.out; omega)).1⟩
    clear h hg hm
    go_enter Try.func7, Try.ntmps7
    go_upto_region 3 with (go_at_call 9; refine I.mono ?_; rintro e w1 ⟨rfl, b1⟩)
    have R1 := RU.out w1 b1
    have HB1 : Hd (Below w.heap.size w w1) := ⟨b1⟩
    clear I RU b1
    go_wp2_with fail
    go_at_call 33
    refine R1.mono ?_
    rintro e w2 ⟨⟨aa, ca, af, cf, aw, cw, rfl, al, -, -⟩, b2⟩
    have H2 : Hd (AlR w2 aa m (fun k => rX o g H (k + 1)) ∧ Below w.heap.size w w2) := ⟨al, HB1.out.trans (b2.mono HB1.out.size)⟩
    clear R1 HB1 b2 al
    have hm3 := HM.out
    by_cases hm0 : m = 0
    · subst hm0
      have Q : Hd (Below w.heap.size w w2) := ⟨H2.out.2⟩
      go_wp2_with fail
      go_ret
      exact ⟨rfl, Q.out⟩
    · obtain ⟨q, hq⟩ : ∃ q : Nat, m = q + 1 := ⟨m - 1, by omega⟩
      have HQ : Hd (m = q + 1) := ⟨hq⟩
      have hq0 : ((m : Int) == 0) = false := by simp only [beq_eq_false_iff_ne]; omega
      have hq1 : (m : Int) - 1 = (q : Int) := by omega
      have iq : (q : Int) < (m : Int) := by omega
      obtain ⟨X, hX⟩ : ∃ X, X = rX o g H (q + 1) := ⟨_, rfl⟩
      have HX : Hd (X = rX o g H (q + 1)) := ⟨hX⟩
      have HF : Hd (Few X.F) := ⟨by rw [hX]; exact HIV.out (q + 1) (by omega)⟩
      have HAL : Hd (∀ Y, Below w2.heap.size w2 Y → ∃ b off a' c', aa = some ⟨b, off, none⟩ ∧ b < Y.heap.size ∧ (Y.cell? ⟨b, off + q * 5, none⟩ = some (.int .u64 X.r) ∧ Y.cell? ⟨b, off + q * 5 + 1, none⟩ = some (.int .i64 X.g) ∧ Y.cell? ⟨b, off + q * 5 + 2, none⟩ = some (.int .i64 X.n) ∧ Y.cell? ⟨b, off + q * 5 + 3, none⟩ = some (.int .i64 X.o) ∧ Y.cell? ⟨b, off + q * 5 + 4, none⟩ = some (.slice a' X.F.length c')) ∧ LsR Y a' c' X.F) := ⟨fun Y qq => by
        obtain ⟨b, off, e, hb, hc⟩ := (H2.out.1.carry qq) (by omega)
        obtain ⟨a', c', y, l⟩ := hc q (by omega)
        rw [hX]
        exact ⟨b, off, a', c', e, hb, y, l⟩⟩
      clear hq hX hm0
      obtain ⟨N, hN⟩ : ∃ N : Nat, wtA X.F = N := ⟨(wtA X.F).toNat, by have := (wtA_rng HF.out).1; omega⟩
      have HN : Hd (wtA X.F = N) := ⟨hN⟩
      have hN2 : (N : Int) ≤ 200000 := by have := (wtA_rng HF.out).2; omega
      clear hN
      obtain ⟨x0, hx0⟩ : ∃ x0, x0 = suX X := ⟨_, rfl⟩
      have HX0 : Hd (x0 = suX X) := ⟨hx0⟩
      clear hx0
      have D0 : Hd (DrI x0 N 0) := ⟨⟨by rw [HX0.out]; exact HF.out.trm 0, by rw [HX0.out]; rfl, ⟨X.F, by rw [HX0.out]; rfl⟩, by rw [HX0.out]; show wtA (trm X.F 0) = _; rw [wt_trm, HN.out]; omega⟩⟩
      obtain ⟨b, off, a4, c4, rfl, hb, ⟨y0, y1, y2, y3, y4⟩, l4⟩ := HAL.out w2 (Below.refl _ _)
      have SU : Calls Try.prog 17 #[.agg #[.int .u64 X.r, .int .i64 X.g, .int .i64 X.n, .int .i64 X.o, .slice a4 X.F.length c4]] w2 fun e w' => (∃ a' c', e = .returned (.agg #[.int .u64 x0.r, .int .i64 x0.g, .int .i64 x0.n, .int .i64 x0.o, .slice a' x0.F.length c']) ∧ StR (fun j => j < w2.heap.size) w' a' c' x0.F) ∧ Below w2.heap.size w2 w' := by
        refine (shut_ok X.r X.g X.n X.o a4 c4 X.F w2 l4 HF.out).mono ?_
        rintro e w' ⟨⟨v, rfl, a', c', rfl, s'⟩, b'⟩
        rw [HX0.out]
        exact ⟨⟨a', c', rfl, s'⟩, b'⟩
      clear l4 hb
      go_wp2_with fail
      go_at_call 17
      refine SU.mono ?_
      rintro e w3 ⟨⟨a5, c5, rfl, s5⟩, b3⟩
      clear SU y0 y1 y2 y3 y4
      obtain ⟨w4, hw4⟩ : ∃ w4, w4 = w3.alloc (.cells #[.int .u64 x0.r, .int .i64 x0.g, .int .i64 x0.n, .int .i64 x0.o, .slice a5 x0.F.length c5] 25) := ⟨_, rfl⟩
      have B4 : Below w3.heap.size w3 w4 := by rw [hw4]; exact alloc_below _ _
      have N4 : Blk w4 w3.heap.size 25 (faA x0.r x0.g x0.n x0.o (.slice a5 x0.F.length c5)) := by rw [hw4]; exact Blk.new _ _ _
      have hs3 := b3.size
      have P4 : Hd (FB w w4 w3.heap.size x0 ∧ Below w2.heap.size w2 w4) := ⟨⟨H2.out.2.trans ((b3.trans (B4.mono hs3)).mono H2.out.2.size), Nat.le_trans H2.out.2.size hs3, a5, c5, N4, s5.step (Kept.of_below B4 _) (fun j hj e => by omega)⟩, b3.trans (B4.mono hs3)⟩
      obtain ⟨A, hA⟩ : ∃ A, A = w3.heap.size := ⟨_, rfl⟩
      rw [← hA] at P4
      clear b3 s5 B4 N4 hs3
      obtain ⟨ab, cb, K, SS⟩ := P4.out.1.box
      obtain ⟨⟨x0', x1, x2, x3, x4⟩, -⟩ := K.fair
      have WA : Calls Try.prog 29 #[.agg #[.int .u64 x0.r, .int .i64 x0.g, .int .i64 x0.n, .int .i64 x0.o, .slice ab x0.F.length cb]] w4 fun e w' => e = .returned (.int .i64 N) ∧ Below w4.heap.size w4 w' := by
        have := waiting_ok x0.r x0.g x0.n x0.o ab cb x0.F w4 (SS.read (Kept.refl _ _)) D0.out.few
        rw [show wtT x0.F x0.F.length = N from by have := D0.out.wt; unfold wtA at this; omega] at this
        exact this
      clear K SS
      go_upto_region 7 with fail
      rw [← hw4, ← hA]
      clear hw4 hA
      go_wp2_with fail
      go_at_call 29
      refine WA.mono ?_
      rintro e w5 ⟨rfl, b5⟩
      clear WA x0' x1 x2 x3 x4
      have P5 : Hd (FB w w5 A x0) := ⟨P4.out.1.carry b5⟩
      obtain ⟨b', off', a6, c6, e6, -, ⟨y0, y1, y2, y3, y4⟩, l6⟩ := HAL.out w5 (P4.out.2.trans (b5.mono P4.out.2.size))
      obtain ⟨rfl, rfl⟩ : b = b' ∧ off = off' := by injection e6 with e1; injection e1 with e1 e2; exact ⟨e1, e2⟩
      have WA : Calls Try.prog 29 #[.agg #[.int .u64 X.r, .int .i64 X.g, .int .i64 X.n, .int .i64 X.o, .slice a6 X.F.length c6]] w5 fun e w' => e = .returned (.int .i64 N) ∧ Below w5.heap.size w5 w' := by
        have := waiting_ok X.r X.g X.n X.o a6 c6 X.F w5 l6 HF.out
        rw [show wtT X.F X.F.length = N from HN.out] at this
        exact this
      clear P4 b5 e6 l6
      go_wp2_with fail
      go_at_call 29
      refine WA.mono ?_
      rintro e w6 ⟨rfl, b6⟩
      clear WA y0 y1 y2 y3 y4
      have P6 : Hd (FB w w6 A x0) := ⟨P5.out.carry b6⟩
      clear P5 b6
      obtain ⟨ab, cb, K, SS⟩ := P6.out.box
      obtain ⟨⟨x0', x1, x2, x3, x4⟩, -⟩ := K.fair
      have SA : Calls Try.prog 31 #[.agg #[.int .u64 x0.r, .int .i64 x0.g, .int .i64 x0.n, .int .i64 x0.o, .slice ab x0.F.length cb]] w6 fun e w' => e = .returned (.int .i64 (stA x0.F)) ∧ Below w6.heap.size w6 w' := seatsF_ok x0.r x0.g x0.n x0.o ab cb x0.F w6 (SS.read (Kept.refl _ _)) D0.out.few
      clear K SS
      go_wp2_with fail
      go_at_call 31
      refine SA.mono ?_
      rintro e w7 ⟨rfl, b7⟩
      clear SA x0' x1 x2 x3 x4
      have P7 : Hd (FB w w7 A x0) := ⟨P6.out.carry b7⟩
      clear P6 b7 HX0 HX HAL HN HF
      go_wp2_with fail
      go_loopw [13, 14] (fun s i wr => ∃ (k : Nat) (x : Fa), k ≤ N ∧ i = .int .i64 k ∧ s = .int .i64 (stA x.F) ∧ DrI x N k ∧ FB w wr A x) (fun _ i _ => N - (intOf i).toNat)
      case atStart => exact ⟨0, x0, Nat.zero_le _, rfl, rfl, D0.out, P7.out⟩
      case round =>
        clear P7 D0
        obtain ⟨k, x, hk, rfl, rfl, D, P⟩ := hrel
        have D : Hd (DrI x N k) := ⟨D⟩
        have P : Hd (FB w wr A x) := ⟨P⟩
        by_cases hlt : k < N
        · obtain ⟨p, e, hp, hne, D2⟩ := D.out.next hlt
          obtain ⟨t1, t2, -, -, t5, t6, t7⟩ := tk_less e hp hne
          obtain ⟨x', hx'⟩ : ∃ x', x' = tkX x := ⟨_, rfl⟩
          rw [← hx'] at D2 t5 t6 t7
          obtain ⟨tt, htt⟩ : ∃ tt, tt = gt (gl x.F p).L 0 := ⟨_, rfl⟩
          have HT : Hd (tt = gt (gl x.F p).L 0 ∧ tkT x = tt ∧ tkO x = true ∧ x' = tkX x) := ⟨htt, by rw [t1, htt], t2, hx'⟩
          rw [← htt] at t7
          obtain ⟨q0, q1, q2, q3, q4⟩ := tt
          have H7 : Hd (DrI x' N (k + 1) ∧ stA x'.F = stA x.F - clW q1 ∧ wtA x'.F = (N : Int) - 1 - (k : Int)) := ⟨D2, t7, by rw [t6, D.out.wt]; omega⟩
          have HP : Hd (nxt x.F x.g = p ∧ p < x.F.length ∧ (gl x.F p).L ≠ []) := ⟨e, hp, hne⟩
          have hS := stA_rng D.out.few
          have hC := clW_lo q1
          have hC2 := clW_hi q1
          obtain ⟨hS1, hS2⟩ := hS
          clear t1 t2 t6 t7 htt hx' D2 e hne
          have i1 : (k : Int) < (N : Int) := by omega
          have i2 : (p : Int) < (x.F.length : Int) := by omega
          have i3 : ¬ (p : Int) < 0 := by omega
          have i4 : ¬ (x.F.length : Int) ≤ (p : Int) := by omega
          have i5 : ¬ (x.F.length : Int) < (x'.F.length : Int) := by omega
          clear t5 hp
          obtain ⟨ab, cb, K, SS⟩ := P.out.box
          obtain ⟨⟨x0, x1, x2, x3, x4⟩, -⟩ := K.fair
          have NX := next_ok x.r x.g x.n x.o ab cb x.F wr (SS.read (Kept.refl _ _)) D.out.few
          rw [HP.out.1, nI_nat, nB_nat] at NX
          clear K SS
          go_wp2_with fail
          go_at_call 27
          refine NX.mono ?_
          rintro e w3 ⟨rfl, b3⟩
          clear NX x0 x1 x2 x3 x4
          have P3 : Hd (FB w w3 A x) := ⟨P.out.carry b3⟩
          clear P b3
          obtain ⟨ab, cb, K, SS⟩ := P3.out.box
          obtain ⟨⟨x0, x1, x2, x3, x4⟩, -⟩ := K.fair
          obtain ⟨b1, o1, a1, c1, rfl, hb1, -, d1, s1⟩ := (SS.read (Kept.refl _ _)).at HP.out.2.1
          obtain ⟨ll, hll⟩ : ∃ ll, ll = (gl x.F p).L.length := ⟨_, rfl⟩
          rw [← hll] at d1
          have hl0 : ((ll : Int) == 0) = false := by simp only [beq_eq_false_iff_ne]; have := len_pos HP.out.2.2; omega
          have hl1 : (0 : Int) < (ll : Int) := by have := len_pos HP.out.2.2; omega
          have TK : Calls Try.prog 23 #[.agg #[.int .u64 x.r, .int .i64 x.g, .int .i64 x.n, .int .i64 x.o, .slice (some ⟨b1, o1, none⟩) x.F.length cb]] w3 fun e w' => (∃ a' c', e = .returned (.tuple #[.agg #[.int .u64 x'.r, .int .i64 x'.g, .int .i64 x'.n, .int .i64 x'.o, .slice a' x'.F.length c'], .agg #[.int .i64 q0, .int .i64 q1, .int .i64 q2, .int .i64 q3, .int .i64 q4], .bool true]) ∧ StR (fun j => j = A) w' a' c' x'.F) ∧ Below w3.heap.size w3 w' := by
            have T := take_st x (some ⟨b1, o1, none⟩) cb w3 (fun j => j = A) SS (fun j e => by have := P3.out.lt; omega) D.out.few
            rw [HT.out.2.1, HT.out.2.2.1, ← HT.out.2.2.2] at T
            refine T.mono ?_
            rintro e w' ⟨⟨v, rfl, a', c', rfl, s'⟩, b'⟩
            exact ⟨⟨a', c', rfl, s'⟩, b'⟩
          obtain ⟨b2, o2, e2, hb2, z0, z1, z2, z3, z4⟩ := s1.2.2.at (k := 0) (by have := len_pos HP.out.2.2; omega)
          rw [← HT.out.1] at z0 z1 z2 z3 z4
          subst e2
          simp only [Nat.zero_mul, Nat.add_zero] at z0 z1 z2 z3 z4
          have HY0 : Hd (∀ Y, Below w3.heap.size w3 Y → (Y.cell? ⟨A, 0, none⟩ = some (.int .u64 x.r) ∧ Y.cell? ⟨A, 1, none⟩ = some (.int .i64 x.g) ∧ Y.cell? ⟨A, 2, none⟩ = some (.int .i64 x.n) ∧ Y.cell? ⟨A, 3, none⟩ = some (.int .i64 x.o) ∧ Y.cell? ⟨A, 4, none⟩ = some (.slice (some ⟨b1, o1, none⟩) x.F.length cb)) ∧ Y.cell? ⟨b1, o1 + p * 2 + 1, none⟩ = some (.slice (some ⟨b2, o2, none⟩) ll c1) ∧ (Y.cell? ⟨b2, o2, none⟩ = some (.int .i64 q0) ∧ Y.cell? ⟨b2, o2 + 1, none⟩ = some (.int .i64 q1) ∧ Y.cell? ⟨b2, o2 + 2, none⟩ = some (.int .i64 q2) ∧ Y.cell? ⟨b2, o2 + 3, none⟩ = some (.int .i64 q3) ∧ Y.cell? ⟨b2, o2 + 4, none⟩ = some (.int .i64 q4)) ∧ FB w Y A x) := ⟨fun Y q => by
            have K4 : Kept (fun _ => False) w3 Y := Kept.of_below q _
            exact ⟨(K.kept K4 (fun h => h)).fair.1, (World.cell?_of_block (K4.block b1 hb1 id)).trans d1, ⟨(World.cell?_of_block (K4.block b2 hb2 id)).trans z0, (World.cell?_of_block (K4.block b2 hb2 id)).trans z1, (World.cell?_of_block (K4.block b2 hb2 id)).trans z2, (World.cell?_of_block (K4.block b2 hb2 id)).trans z3, (World.cell?_of_block (K4.block b2 hb2 id)).trans z4⟩, P3.out.carry q⟩⟩
          clear K SS s1 z0 z1 z2 z3 z4 hb1 hb2 hll
          go_upto_region 17 with fail
          clear d1
          go_wp2_with fail
          go_at_call 23
          refine TK.mono ?_
          rintro e w4 ⟨⟨a4, c4, rfl, s4⟩, b4⟩
          clear TK x0 x1 x2 x3 x4 P3
          obtain ⟨w5, hw5⟩ : ∃ w5, w5 = (w4.alloc (.cells #[.int .u64 x'.r, .int .i64 x'.g, .int .i64 x'.n, .int .i64 x'.o, .slice a4 x'.F.length c4] 25)).alloc (.cells #[.int .i64 q0, .int .i64 q1, .int .i64 q2, .int .i64 q3, .int .i64 q4] 28) := ⟨_, rfl⟩
          obtain ⟨BB, N5, N6⟩ := boxes w4 25 28 #[.int .u64 x'.r, .int .i64 x'.g, .int .i64 x'.n, .int .i64 x'.o, .slice a4 x'.F.length c4] #[.int .i64 q0, .int .i64 q1, .int .i64 q2, .int .i64 q3, .int .i64 q4]
          rw [← hw5] at BB N5 N6
          have N5 : Blk w5 w4.heap.size 25 (faA x'.r x'.g x'.n x'.o (.slice a4 x'.F.length c4)) := N5
          have b35 := b4.trans (BB.mono b4.size)
          obtain ⟨g4, hg4⟩ : ∃ g4, g4 = w4.heap.size := ⟨_, rfl⟩
          rw [← hg4] at N5 N6
          have H5 : Hd (Blk w5 g4 25 (faA x'.r x'.g x'.n x'.o (.slice a4 x'.F.length c4)) ∧ Blk w5 (g4 + 1) 28 (tkA ⟨q0, q1, q2, q3, q4⟩) ∧ StR (fun j => j = A) w5 a4 c4 x'.F ∧ Below w3.heap.size w3 w5) := ⟨N5, N6, s4.step (Kept.of_below BB _) (fun _ _ e => e), b35⟩
          clear b4 s4 BB N5 N6 b35
          go_upto_region 18 with fail
          rw [← hw5, ← hg4]
          clear hw5 hg4
          refine AnyG.start (T := fun Y => Below w5.drew.heap.size w5.drew Y) (U := fun _ => True) (j0 := 100) (by kernel_rfl) ?_
          obtain ⟨w6, hw6⟩ : ∃ w6, w6 = w5.drew := ⟨_, rfl⟩
          have BD : Below w5.heap.size w5 w6 := by rw [hw6]; exact (Below.refl _ _).drew
          rw [← hw6]
          clear hw6
          have HY : Hd (∀ Y, Below w6.heap.size w6 Y → ((Y.cell? ⟨A, 0, none⟩ = some (.int .u64 x.r) ∧ Y.cell? ⟨A, 1, none⟩ = some (.int .i64 x.g) ∧ Y.cell? ⟨A, 2, none⟩ = some (.int .i64 x.n) ∧ Y.cell? ⟨A, 3, none⟩ = some (.int .i64 x.o) ∧ Y.cell? ⟨A, 4, none⟩ = some (.slice (some ⟨b1, o1, none⟩) x.F.length cb)) ∧ Y.cell? ⟨b1, o1 + p * 2 + 1, none⟩ = some (.slice (some ⟨b2, o2, none⟩) ll c1) ∧ (Y.cell? ⟨b2, o2, none⟩ = some (.int .i64 q0) ∧ Y.cell? ⟨b2, o2 + 1, none⟩ = some (.int .i64 q1) ∧ Y.cell? ⟨b2, o2 + 2, none⟩ = some (.int .i64 q2) ∧ Y.cell? ⟨b2, o2 + 3, none⟩ = some (.int .i64 q3) ∧ Y.cell? ⟨b2, o2 + 4, none⟩ = some (.int .i64 q4)) ∧ FB w Y A x) ∧ Blk Y g4 25 (faA x'.r x'.g x'.n x'.o (.slice a4 x'.F.length c4)) ∧ Blk Y (g4 + 1) 28 (tkA ⟨q0, q1, q2, q3, q4⟩) ∧ StR (fun j => j = A) Y a4 c4 x'.F) := ⟨fun Y q => by
            have q5 := BD.trans (q.mono BD.size)
            exact ⟨HY0.out Y (H5.out.2.2.2.trans (q5.mono H5.out.2.2.2.size)), H5.out.1.kept (Kept.of_below q5 (fun _ => False)) (fun h => h), H5.out.2.1.kept (Kept.of_below q5 (fun _ => False)) (fun h => h), H5.out.2.2.1.step (Kept.of_below q5 _) (fun _ _ e => e)⟩⟩
          have R : Below w6.heap.size w6 w6 := Below.refl _ _
          clear HY0 H5 BD
          refine .tq 0 96 R ?_; simp only [oqA, oqB, oqC]
          refine .tq (v := .bool false) 1 97 R ?_ (hy := fun w hSw => by go_simp; first | done | omega | rfl); simp only [oqA, oqB, oqC]
          refine .tq 2 98 R ?_; simp only [oqA, oqB, oqC]
          refine .tq 3 99 R ?_ (hy := fun w hSw => by have s := (Blk.five (t := ⟨q0, q1, q2, q3, q4⟩) (HY.out w hSw).2.2.1).1; go_simp; rfl); simp only [oqA, oqB, oqC]
          refine .tq 4 100 R ?_; simp only [oqA, oqB, oqC]
          refine .tq 5 101 R ?_ (hy := fun w hSw => by have s := (HY.out w hSw).1.1; go_simp; rfl); simp only [oqA, oqB, oqC]
          refine .tq 6 102 R ?_; simp only [oqA, oqB, oqC]
          refine .tq 7 103 R ?_; simp only [oqA, oqB, oqC]
          refine .tq 8 104 R ?_; simp only [oqA, oqB, oqC]
          refine .tq 9 105 R ?_ (hy := fun w hSw => by have s := (HY.out w hSw).1.2.1; go_simp; rfl); simp only [oqA, oqB, oqC]
          refine .tq (v := .pointer (some ⟨b2, o2, none⟩)) 10 106 R ?_ (hy := fun w hSw => by go_simp; intro h; omega); simp only [oqA, oqB, oqC]
          refine .tq 11 107 R ?_ (hy := fun w hSw => by have s := (HY.out w hSw).1.2.2.1; go_simp; rfl); simp only [oqA, oqB, oqC]
          refine .tq (v := .bool false) 12 108 R ?_ (hy := fun w hSw => by go_simp; first | done | omega | rfl); simp only [oqA, oqB, oqC]
          refine .tq (v := .bool false) 13 109 R ?_ (hy := fun w hSw => by go_simp; first | done | omega | rfl); simp only [oqA, oqB, oqC]
          refine .tq 14 110 R ?_; simp only [oqA, oqB, oqC]
          refine .tq 15 111 R ?_; simp only [oqA, oqB, oqC]
          refine .tq 16 112 R ?_ (hy := fun w hSw => by have s := (HY.out w hSw).2.1.fair.1; go_simp; rfl); simp only [oqA, oqB, oqC]
          refine .tq 17 113 R ?_; simp only [oqA, oqB, oqC]
          refine .tq 18 114 R ?_; simp only [oqA, oqB, oqC]
          refine .tq 19 115 R ?_ (hy := fun w hSw => by have s := (HY.out w hSw).1.1; go_simp; rfl); simp only [oqA, oqB, oqC]
          refine .tq 20 116 R ?_; simp only [oqA, oqB, oqC]
          refine .tq (v := .bool false) 21 117 R ?_ (hy := fun w hSw => by go_simp; first | done | omega | rfl); simp only [oqA, oqB, oqC]
          refine .tq (v := .bool false) 22 118 R ?_ (hy := fun w hSw => by go_simp; first | done | omega | rfl); simp only [oqA, oqB, oqC]
          refine AnyG.done (by kernel_rfl) ?_ _
          clear R
          obtain ⟨⟨-, -, -, P6⟩, N5, N6, S6⟩ := HY.out w6 (Below.refl _ _)
          have H6 : Hd (FB w w6 A x ∧ Blk w6 g4 25 (faA x'.r x'.g x'.n x'.o (.slice a4 x'.F.length c4)) ∧ Blk w6 (g4 + 1) 28 (tkA ⟨q0, q1, q2, q3, q4⟩) ∧ StR (fun j => j = A) w6 a4 c4 x'.F) := ⟨P6, N5, N6, S6⟩
          obtain ⟨⟨f0, f1, f2, f3, f4⟩, -⟩ := Blk.five (t := ⟨q0, q1, q2, q3, q4⟩) N6
          simp only at f0 f1 f2 f3 f4
          clear HY P6 N5 N6 S6
          obtain ⟨cw9, hcw⟩ : ∃ cw9, cw9 = clW q1 := ⟨_, rfl⟩
          have RW := rwidth_ok q1
          rw [← hcw] at RW hC hC2 H7
          clear hcw
          obtain ⟨S0, hS0⟩ : ∃ S0, S0 = stA x.F := ⟨_, rfl⟩
          rw [← hS0] at H7 hS1 hS2 ⊢
          clear hS0
          go_upto_region 20 with fail
          go_wp2_with fail
          go_at_call 35
          refine (RW _).mono ?_
          rintro e w7 ⟨rfl, hw7⟩
          rw [hw7]
          clear hw7 RW f0 f1 f2 f3 f4
          obtain ⟨⟨x0, x1, x2, x3, x4⟩, -⟩ := H6.out.2.1.fair
          have SA : Calls Try.prog 31 #[.agg #[.int .u64 x'.r, .int .i64 x'.g, .int .i64 x'.n, .int .i64 x'.o, .slice a4 x'.F.length c4]] w6 fun e w' => e = .returned (.int .i64 (S0 - cw9)) ∧ Below w6.heap.size w6 w' := by
            have := seatsF_ok x'.r x'.g x'.n x'.o a4 c4 x'.F w6 (H6.out.2.2.2.read (Kept.refl _ _)) H7.out.1.few
            rw [show stT x'.F x'.F.length = S0 - cw9 from H7.out.2.1] at this
            exact this
          go_wp2_with fail
          go_at_call 31
          refine SA.mono ?_
          rintro e w8 ⟨rfl, b8⟩
          clear SA x0 x1 x2 x3 x4
          have H8 : Hd (FB w w8 A x ∧ Blk w8 g4 25 (faA x'.r x'.g x'.n x'.o (.slice a4 x'.F.length c4)) ∧ StR (fun j => j = A) w8 a4 c4 x'.F) := ⟨H6.out.1.carry b8, H6.out.2.1.kept (Kept.of_below b8 (fun _ => False)) (fun h => h), H6.out.2.2.2.step (Kept.of_below b8 _) (fun _ _ e => e)⟩
          clear H6 b8
          obtain ⟨⟨x0, x1, x2, x3, x4⟩, -⟩ := H8.out.2.1.fair
          have WA : Calls Try.prog 29 #[.agg #[.int .u64 x'.r, .int .i64 x'.g, .int .i64 x'.n, .int .i64 x'.o, .slice a4 x'.F.length c4]] w8 fun e w' => e = .returned (.int .i64 ((N : Int) - 1 - (k : Int))) ∧ Below w8.heap.size w8 w' := by
            have := waiting_ok x'.r x'.g x'.n x'.o a4 c4 x'.F w8 (H8.out.2.2.read (Kept.refl _ _)) H7.out.1.few
            rw [show wtT x'.F x'.F.length = (N : Int) - 1 - (k : Int) from H7.out.2.2] at this
            exact this
          go_wp2_with fail
          go_at_call 29
          refine WA.mono ?_
          rintro e w9 ⟨rfl, b9⟩
          clear WA x0 x1 x2 x3 x4
          have H9 : Hd (FB w w9 A x ∧ Blk w9 g4 25 (faA x'.r x'.g x'.n x'.o (.slice a4 x'.F.length c4)) ∧ StR (fun j => j = A) w9 a4 c4 x'.F) := ⟨H8.out.1.carry b9, H8.out.2.1.kept (Kept.of_below b9 (fun _ => False)) (fun h => h), H8.out.2.2.step (Kept.of_below b9 _) (fun _ _ e => e)⟩
          clear H8 b9
          obtain ⟨ab6, cb6, K6, S6⟩ := H9.out.1.box
          obtain ⟨⟨x0, x1, x2, x3, x4⟩, xf0, xf1, xf2, xf3, xf4⟩ := K6.fair
          obtain ⟨⟨y0, y1, y2, y3, y4⟩, -⟩ := H9.out.2.1.fair
          obtain ⟨z1, z2⟩ := fair_set K6 x'.r x'.g x'.n x'.o (.slice a4 x'.F.length c4)
          have PZ : Hd (FB w _ A x') := ⟨H9.out.1.put z2 z1 H9.out.2.2⟩
          clear z1 z2 K6 S6 H9
          go_upto_region 13 with fail
          clear x0 x1 x2 x3 x4 xf0 xf1 xf2 xf3 xf4 y0 y1 y2 y3 y4
          generalize World.setCell _ _ _ = wz at *
          go_wp2_with fail
          go_roundw
          case rel => exact ⟨k + 1, x', by omega, by go_num, by rw [H7.out.2.1], H7.out.1, PZ.out⟩
          case measure => simp [intOf]; omega
        · obtain rfl : k = N := by omega
          obtain ⟨hz1, hz2, hz3⟩ := D.out.last
          obtain ⟨ab, cb, K, SS⟩ := P.out.box
          have TK : Calls Try.prog 23 #[.agg #[.int .u64 x.r, .int .i64 x.g, .int .i64 x.n, .int .i64 x.o, .slice ab x.F.length cb]] wr fun e w' => (∃ a' c', e = .returned (.tuple #[.agg #[.int .u64 x.r, .int .i64 x.g, .int .i64 x.n, .int .i64 x.o, .slice a' x.F.length c'], .agg #[.int .i64 0, .int .i64 0, .int .i64 0, .int .i64 0, .int .i64 0], .bool false])) ∧ Below wr.heap.size wr w' := by
            refine (ftake_none x.r x.g x.n x.o ab cb x.F wr (SS.read (Kept.refl _ _)) D.out.few hz3).mono ?_
            rintro e w' ⟨⟨v, rfl, a', c', rfl, -⟩, b'⟩
            exact ⟨⟨a', c', rfl⟩, b'⟩
          rw [hz1] at K TK
          rw [hz2]
          clear SS hz1 hz2 hz3
          have K : Blk wr A 25 (faA x.r x.g x.n x.o (.slice ab 0 cb)) := K
          have HK : Hd (∀ Y, Below wr.heap.size wr Y → Blk Y A 25 (faA x.r x.g x.n x.o (.slice ab 0 cb)) ∧ Below w.heap.size w Y) := ⟨fun Y q => ⟨K.kept (Kept.of_below q (fun _ => False)) (fun h => h), P.out.bel.trans (q.mono P.out.bel.size)⟩⟩
          obtain ⟨⟨x0, x1, x2, x3, x4⟩, -⟩ := K.fair
          clear K
          go_wp2_with fail
          go_at_call 23
          refine TK.mono ?_
          rintro e w4 ⟨⟨a4, c4, rfl⟩, b4⟩
          clear TK x0 x1 x2 x3 x4
          obtain ⟨w5, hw5⟩ : ∃ w5, w5 = (w4.alloc (.cells #[.int .u64 x.r, .int .i64 x.g, .int .i64 x.n, .int .i64 x.o, .slice a4 0 c4] 25)).alloc (.cells #[.int .i64 0, .int .i64 0, .int .i64 0, .int .i64 0, .int .i64 0] 28) := ⟨_, rfl⟩
          obtain ⟨BB, -, -⟩ := boxes w4 25 28 #[.int .u64 x.r, .int .i64 x.g, .int .i64 x.n, .int .i64 x.o, .slice a4 0 c4] #[.int .i64 0, .int .i64 0, .int .i64 0, .int .i64 0, .int .i64 0]
          rw [← hw5] at BB
          obtain ⟨K5, B5⟩ := HK.out w5 (b4.trans (BB.mono b4.size))
          have Q : Hd (Below w.heap.size w w5) := ⟨B5⟩
          obtain ⟨⟨x0, x1, x2, x3, x4⟩, -⟩ := K5.fair
          clear BB b4 K5 B5 HK P
          go_upto_region 25 with fail
          rw [← hw5]
          clear hw5
          go_wp2_with fail
          go_ret
          exact ⟨rfl, Q.out⟩
  · have RU : Hd (∀ W, Calls Try.prog 33 #[.int .i64 o, .int .i64 g, .slice a n c] W fun e w' => e = .returned (.tuple #[.slice none 0 0, .slice none 0 0, .slice none 0 0, .bool false]) ∧ Below W.heap.size W w') := ⟨fun W => run_no o g a n c W hg⟩
    clear h hg
    go_enter Try.func7, Try.ntmps7
    go_upto_region 3 with (go_at_call 9; refine I.mono ?_; rintro e w1 ⟨rfl, b1⟩)
    clear I
    go_wp2_with fail
    go_at_call 33
    refine (RU.out w1).mono ?_
    rintro e w2 ⟨rfl, b2⟩
    have Q : Hd (Below w.heap.size w w2) := ⟨b1.trans (b2.mono b1.size)⟩
    clear b1 b2 RU
    go_wp2_with fail
    go_ret
    exact ⟨rfl, Q.out⟩
end Go.Proofs.Ytemmkkcfjhmomaa
