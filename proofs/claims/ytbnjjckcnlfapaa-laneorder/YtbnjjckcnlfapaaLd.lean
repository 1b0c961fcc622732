/-
  The walk of 'LaneDrop'. Conditions: the lane lies in memory, its time is a word.
-/
import Derived.Test.YtbnjjckcnlfapaaLr
import Derived.Test.YtbnjjckcnlfapaaDr
import Derived.Test.YtbnjjckcnlfapaaSm
namespace Go.Proofs.Ytbnjjckcnlfapaa
open Go.RowKit

theorem gt_append_left : ∀ (L M : List Tk) (i : Nat), i < L.length → gt (L ++ M) i = gt L i
  | [], _, i, h => absurd h (Nat.not_lt_zero i)
  | _ :: _, _, 0, _ => rfl
  | t :: L, M, i + 1, h => by
    rw [List.cons_append, gt_cons_succ, gt_cons_succ]
    exact gt_append_left L M i (by simpa using h)
theorem gt_append_right : ∀ (L M : List Tk) (i : Nat), gt (L ++ M) (L.length + i) = gt M i
  | [], M, i => by rw [List.nil_append, List.length_nil, Nat.zero_add]
  | t :: L, M, i => by
    rw [List.cons_append, List.length_cons, show L.length + 1 + i = (L.length + i) + 1 from by omega, gt_cons_succ]
    exact gt_append_right L M i
theorem gt_take (L : List Tk) (k i : Nat) (h : i < k) (hk : k ≤ L.length) : gt (L.take k) i = gt L i := by
  have := gt_append_left (L.take k) (L.drop k) i (by simp; omega)
  rw [List.take_append_drop] at this
  exact this.symm
theorem gt_drop (L : List Tk) (k i : Nat) (hk : k ≤ L.length) : gt (L.drop k) i = gt L (k + i) := by
  have := gt_append_right (L.take k) (L.drop k) i
  rw [List.take_append_drop, List.length_take, Nat.min_eq_left hk] at this
  exact this.symm
theorem drL_len_yes {id : Int} {L : List Tk} (h : fnd id L < L.length) : (drL id L).length + 1 = L.length := by unfold drL; simp; omega
theorem drL_low {id : Int} {L : List Tk} (h : fnd id L < L.length) {i : Nat} (hi : i < fnd id L) : gt (drL id L) i = gt L i := by
  unfold drL
  rw [gt_append_left _ _ _ (by simp; omega), gt_take _ _ _ hi (by omega)]
theorem drL_high {id : Int} {L : List Tk} (h : fnd id L < L.length) {i : Nat} (hi : fnd id L ≤ i) : gt (drL id L) i = gt L (i + 1) := by
  unfold drL
  have := gt_append_right (L.take (fnd id L)) (L.drop (fnd id L + 1)) (i - fnd id L)
  rw [List.length_take, Nat.min_eq_left (by omega), gt_drop _ _ _ (by omega)] at this
  rw [show fnd id L + (i - fnd id L) = i from by omega] at this
  rw [this]
  congr 1
  omega
theorem fin_drop {id s g : Int} {L : List Tk} (h : fnd id L < L.length) (h0 : 0 < fnd id L) : finI s L g = finI s (drL id L) g := by
  have l1 : L ≠ [] := by intro e; rw [e] at h; exact absurd h (Nat.not_lt_zero _)
  have l2 : drL id L ≠ [] := by
    intro e
    have := drL_len_yes h
    rw [e, List.length_nil] at this
    omega
  rw [finI_some l1, finI_some l2, drL_low h h0]

set_option maxRecDepth 20000 in
set_option maxHeartbeats 4000000 in
theorem drop_law (s : Int) (a : Option Addr) (c : Nat) (L : List Tk) (id g : Int) (w : World) (hs : Word s) (h : SlR w a c L) :
    Calls Try.prog 7 #[.agg #[.int .u64 s, .slice a L.length c], .int .i64 id, .int .i64 g] w fun e w' => e = .returned (.bool true) ∧ Below w.heap.size w w' := by
  obtain ⟨w2, hw2⟩ : ∃ w2, w2 = w.alloc (.cells #[.int .u64 s, .slice a L.length c] 25) := ⟨_, rfl⟩
  have B : Below w.heap.size w w2 := by rw [hw2]; exact alloc_below _ _
  have N1 : Blk w2 w.heap.size 25 (lnA s (.slice a L.length c)) := by rw [hw2]; exact Blk.new _ _ _
  have I := awake_ok w2
  have H : Hd (∀ W, Below w2.heap.size w2 W → Blk W w.heap.size 25 (lnA s (.slice a L.length c)) ∧ SlR W a c L ∧ Below w.heap.size w W) := ⟨fun W b => ⟨N1.kept (Kept.of_below b (fun _ => False)) (fun h => h), (h.carry B).carry b, B.trans (b.mono B.size)⟩⟩
  clear B N1 h
  by_cases t1 : (100 : Int) < (L.length : Int)
  · obtain ⟨n, hn⟩ : ∃ n, n = L.length := ⟨_, rfl⟩
    rw [← hn] at t1 hw2 H ⊢
    clear hn
    go_enter Try.func7, Try.ntmps7
    go_upto_region 1 with fail
    rw [← hw2]
    clear hw2
    go_upto_region 3 with (go_at_call 8; refine I.mono ?_; rintro e w3 ⟨rfl, b3⟩)
    obtain ⟨x1, -, x4⟩ := H.out w3 b3
    obtain ⟨⟨c0, c1⟩, -⟩ := x1.lane
    have Q : Hd _ := ⟨x4⟩
    clear x1 x4 b3 I H
    go_wp2_with fail
    go_ret
    exact ⟨rfl, Q.out⟩
  have hl : L.length ≤ 100 := by omega
  have DH : Hd (∀ W, SlR W a c L → Calls Try.prog 12 #[.agg #[.int .u64 s, .slice a L.length c], .int .i64 id] W fun e w' => (∃ v, e = .returned (.tuple #[v, .agg #[.int .i64 (drT id L).id, .int .i64 (drT id L).wid, .int .i64 (drT id L).sts, .int .i64 (drT id L).sin, .int .i64 (drT id L).unt], .bool (drB id L)]) ∧ LnV w' s (drL id L) v) ∧ Below W.heap.size W w') := ⟨fun W q => drop_ok s a c L id W q (by omega)⟩
  by_cases hf : fnd id L < L.length
  · rw [drB_yes hf] at DH
    have FH : Hd (∀ W a1 c1, (SlR W a c L → Calls Try.prog 14 #[.agg #[.int .u64 s, .slice a L.length c], .int .i64 g] W fun e w' => e = .returned (.tuple #[.int .u64 (finI s L g), .bool (hasI L)]) ∧ Below W.heap.size W w') ∧ (SlR W a1 c1 (drL id L) → Calls Try.prog 14 #[.agg #[.int .u64 s, .slice a1 (drL id L).length c1], .int .i64 g] W fun e w' => e = .returned (.tuple #[.int .u64 (finI s (drL id L) g), .bool (hasI (drL id L))]) ∧ Below W.heap.size W w')) := ⟨fun W a1 c1 => ⟨fun q => finish_ok s a c L g W hs q.2.2 (by omega), fun q => finish_ok s a1 c1 (drL id L) g W hs q.2.2 (by have := drL_len id L; omega)⟩⟩
    have FE : Hd (0 < fnd id L → finI s L g = finI s (drL id L) g) := ⟨fin_drop hf⟩
    have GL : Hd (∀ i, i < fnd id L → gt (drL id L) i = gt L i) := ⟨fun i hi => drL_low hf hi⟩
    have GR : Hd (∀ i, fnd id L ≤ i → gt (drL id L) i = gt L (i + 1)) := ⟨fun i hi => drL_high hf hi⟩
    have GI : Hd (gt L (fnd id L) = drT id L ∧ (drT id L).id = id ∧ (∀ j, j < fnd id L → (gt L j).id ≠ id)) := ⟨rfl, fnd_is id L hf, fnd_not id L⟩
    have DL := drL_len_yes hf
    generalize finI s L g = f1 at *
    generalize finI s (drL id L) g = f2 at *
    generalize hasI L = b1 at *
    generalize hasI (drL id L) = b2 at *
    generalize drT id L = t at *
    generalize drL id L = D at *
    generalize fnd id L = k at *
    obtain ⟨t0, t1', t2, t3, t4⟩ := t
    simp only at *
    obtain ⟨n, hn⟩ : ∃ n, L.length = n := ⟨_, rfl⟩
    obtain ⟨m, hm⟩ : ∃ m, D.length = m := ⟨_, rfl⟩
    have HN : Hd (L.length = n ∧ D.length = m ∧ m + 1 = n) := ⟨hn, hm, by omega⟩
    rw [hn] at t1 hw2 H hl DH FH hf ⊢
    rw [hm] at FH
    clear hn hm DL hs
    have hmn : m < n := by have := HN.out.2.2; omega
    go_enter Try.func7, Try.ntmps7
    go_upto_region 1 with fail
    rw [← hw2]
    clear hw2
    go_upto_region 3 with (go_at_call 8; refine I.mono ?_; rintro e w3 ⟨rfl, b3⟩)
    obtain ⟨x1, x2, x4⟩ := H.out w3 b3
    obtain ⟨⟨c0, c1⟩, -⟩ := x1.lane
    have DC := DH.out w3 x2
    have B3 : Hd (Below w2.heap.size w2 w3) := ⟨b3⟩
    clear x1 x2 x4 b3 I DH
    go_upto_region 5 with fail
    go_wp2_with fail
    go_at_call 12
    refine DC.mono ?_
    rintro e w4 ⟨⟨v4, rfl, a4, c4, rfl, l4⟩, b4⟩
    rw [HN.out.2.1]
    clear c0 c1 DC
    obtain ⟨w5, hw5⟩ : ∃ w5, w5 = (w4.alloc (.cells #[.int .u64 s, .slice a4 m c4] 25)).alloc (.cells #[.int .i64 t0, .int .i64 t1', .int .i64 t2, .int .i64 t3, .int .i64 t4] 27) := ⟨_, rfl⟩
    have BY := boxes w4 25 27 #[.int .u64 s, .slice a4 m c4] #[.int .i64 t0, .int .i64 t1', .int .i64 t2, .int .i64 t3, .int .i64 t4]
    rw [← hw5] at BY
    obtain ⟨q5, N5, M5⟩ := BY
    have B5 : Below w2.heap.size w2 w5 := (B3.out.trans (b4.mono B3.out.size)).trans (q5.mono (Nat.le_trans B3.out.size b4.size))
    have H5 : Hd (∀ W, Below w5.heap.size w5 W → Blk W w4.heap.size 25 (lnA s (.slice a4 m c4)) ∧ Blk W (w4.heap.size + 1) 27 (tkA ⟨t0, t1', t2, t3, t4⟩) ∧ SlR W a4 c4 D ∧ Blk W w.heap.size 25 (lnA s (.slice a n c)) ∧ SlR W a c L ∧ Below w.heap.size w W) := ⟨fun W b => by
      obtain ⟨y1, y2, y3⟩ := H.out W (B5.trans (b.mono B5.size))
      exact ⟨Blk.kept N5 (Kept.of_below b (fun _ => False)) (fun h => h), Blk.kept M5 (Kept.of_below b (fun _ => False)) (fun h => h), (l4.carry q5).carry b, y1, y2, y3⟩⟩
    clear B5 q5 N5 M5 l4 b4 B3 H
    go_upto_region 6 with fail
    rw [← hw5]
    clear hw5
    generalize w4.heap.size = g7 at *
    obtain ⟨x1, x2, x3, x4, x5, x6⟩ := H5.out w5 (Below.refl _ _)
    obtain ⟨⟨c0, c1⟩, -⟩ := x4.lane
    have R5 : Hd (SlR w5 a c L) := ⟨x5⟩
    clear x1 x2 x3 x4 x5 x6
    go_wp2_with fail
    go_loopw [11] (fun i wr => ∃ j : Nat, j ≤ k ∧ i = .int .i64 j ∧ wr = w5) (fun i _ => k - (intOf i).toNat)
    case atStart => exact ⟨0, Nat.zero_le _, rfl, rfl⟩
    case round =>
      obtain ⟨j, hj, rfl, rfl⟩ := hrel
      obtain ⟨b, off, rfl, -, d0, d1, d2, d3, d4⟩ := R5.out.2.2.at (k := j) (by rw [HN.out.1]; omega)
      by_cases hjk : j < k
      · have hne := GI.out.2.2 j hjk
        have e' : ((gt L j).id != id) = true := by simpa using hne
        have hjn : (j : Int) < (n : Int) := by omega
        clear d1 d2 d3 d4 hne
        generalize (gt L j).id = z at *
        go_wp2_with fail
        go_roundw
        case rel => exact ⟨j + 1, by omega, by go_num, by trivial⟩
        case measure => simp [intOf]; omega
      · obtain rfl : j = k := by omega
        rw [GI.out.1] at d0 d1 d2 d3 d4
        simp only at d0 d1 d2 d3 d4
        have hid := GI.out.2.1
        subst hid
        obtain ⟨x1, x2, -, -, -, -⟩ := H5.out wr (Below.refl _ _)
        obtain ⟨⟨e0, e1⟩, -⟩ := x1.lane
        obtain ⟨⟨f0, f1', f2', f3, f4⟩, -⟩ := x2.five
        simp only at f0 f1' f2' f3 f4
        clear x1 x2
        have g1 : ((j : Int) == (n : Int)) = false := by simp; omega
        have g2 : ((m : Int) != (n : Int) - 1) = false := by have := HN.out.2.2; simp; omega
        have hjn : (j : Int) < (n : Int) := by omega
        go_upto_region 16 with fail
        go_quiet (fail)
        clear c0 c1 d0 d1 d2 d3 d4 e0 e1 f0 f1' f2' f3 f4
        obtain ⟨wo, ew⟩ : ∃ wo, wo = wr := ⟨_, rfl⟩
        subst ew
        go_wp2_with fail
        go_loopw [12] (fun i wr => ∃ q : Nat, q ≤ m ∧ i = .int .i64 q ∧ Below wo.heap.size wo wr) (fun i _ => m - (intOf i).toNat)
        case atStart => exact ⟨0, Nat.zero_le _, rfl, ⟨rfl, rfl, rfl, Nat.le_refl _, fun _ _ => rfl⟩⟩
        case round =>
          obtain ⟨q, hq, rfl, p3⟩ := hrel
          obtain ⟨x1, x2, x3, x4, x5, x6⟩ := H5.out wr p3
          obtain ⟨⟨c0, c1⟩, -⟩ := x1.lane
          obtain ⟨⟨d0, d1⟩, -⟩ := x4.lane
          by_cases hqm : q < m
          · have P : Hd (Below wo.heap.size wo wr) := ⟨p3⟩
            obtain ⟨bd, od, rfl, -, e0, e1, e2, e3, e4⟩ := x3.2.2.at (k := q) (by rw [HN.out.2.1]; exact hqm)
            by_cases hqk : j ≤ q
            · have E := GR.out q hqk
              obtain ⟨bl, ol, el, -, f0, f1', f2', f3, f4⟩ := x5.2.2.at (k := q + 1) (by rw [HN.out.1]; omega)
              cases el
              rw [E] at e0 e1 e2 e3 e4
              have hw : IntKind.i64.wrap ((q : Int) + 1) = (q : Int) + 1 := by rw [IntKind.wrap_i64]; omega
              have hqn : (q : Int) + 1 < (n : Int) := by omega
              have g3 : decide ((j : Int) ≤ (q : Int)) = true := decide_eq_true (by omega)
              clear x1 x2 x3 x4 x5 x6 p3 E
              generalize gt L (q + 1) = z at *
              obtain ⟨z0, z1, z2, z3, z4⟩ := z
              simp only at e0 e1 e2 e3 e4 f0 f1' f2' f3 f4
              go_upto_region 24 with fail
              go_quiet (fail)
              go_wp2
              go_roundw
              case rel => exact ⟨q + 1, by omega, by go_num, ⟨P.out.os, P.out.tape, P.out.output, P.out.size, P.out.block⟩⟩
              case measure => simp [intOf]; omega
            · have E := GL.out q (by omega)
              obtain ⟨bl, ol, el, -, f0, f1', f2', f3, f4⟩ := x5.2.2.at (k := q) (by rw [HN.out.1]; omega)
              cases el
              rw [E] at e0 e1 e2 e3 e4
              have hqn : (q : Int) < (n : Int) := by omega
              have g3 : decide ((j : Int) ≤ (q : Int)) = false := decide_eq_false (by omega)
              clear x1 x2 x3 x4 x5 x6 p3 E
              generalize gt L q = z at *
              obtain ⟨z0, z1, z2, z3, z4⟩ := z
              simp only at e0 e1 e2 e3 e4 f0 f1' f2' f3 f4
              go_upto_region 24 with fail
              go_quiet (fail)
              go_wp2
              go_roundw
              case rel => exact ⟨q + 1, by omega, by go_num, ⟨P.out.os, P.out.tape, P.out.output, P.out.size, P.out.block⟩⟩
              case measure => simp [intOf]; omega
          · obtain rfl : q = m := by omega
            have T := (FH.out wr a4 c4).1 x5
            have P : Hd (Below wo.heap.size wo wr) := ⟨p3⟩
            clear x1 x2 x3 x4 x5 x6 p3
            go_upto_region 26 with fail
            go_wp2_with fail
            go_at_call 14
            refine T.mono ?_
            rintro e w6 ⟨rfl, b6⟩
            have B6 : Hd (Below wo.heap.size wo w6) := ⟨P.out.trans (b6.mono P.out.size)⟩
            clear T c0 c1 d0 d1 b6
            obtain ⟨x1, x2, x3, x4, x5, x6⟩ := H5.out w6 B6.out
            obtain ⟨⟨c0, c1⟩, -⟩ := x1.lane
            have T := (FH.out w6 a4 c4).2 x3
            clear x1 x2 x3 x4 x5 x6
            go_upto_region 27 with fail
            go_wp2_with fail
            go_at_call 14
            refine T.mono ?_
            rintro e w7 ⟨rfl, b7⟩
            have B7 : Below wo.heap.size wo w7 := B6.out.trans (b7.mono B6.out.size)
            have Q : Hd _ := ⟨(H5.out w7 B7).2.2.2.2.2⟩
            have HE : Hd (0 < j → f1 = f2) := FE
            clear T c0 c1 b7 B7 B6 H5 FH P
            by_cases hj0 : j = 0
            · subst hj0
              go_wp2_with fail
              go_ret
              exact ⟨rfl, Q.out⟩
            · have g4 : ((j : Int) == 0) = false := by simp; omega
              have e4 := HE.out (by omega)
              subst e4
              clear hj0
              go_wp2_with fail
              go_ret
              exact ⟨rfl, Q.out⟩
  · rw [drB_no hf, drL_no hf] at DH
    have GI : Hd (∀ j, j < L.length → (gt L j).id ≠ id) := ⟨fun j hj => fnd_not id L j (by have := fnd_le id L; omega)⟩
    have SH : Hd (∀ W a1 c1, SlR W a1 c1 L → SlR W a c L → Calls Try.prog 16 #[.agg #[.int .u64 s, .slice a1 L.length c1], .agg #[.int .u64 s, .slice a L.length c]] W fun e w' => e = .returned (.bool true) ∧ Below W.heap.size W w') := ⟨fun W a1 c1 q1 q2 => samel_ok s a1 a c1 c L W q1.2.2 q2.2.2 (by omega)⟩
    generalize drT id L = t at *
    obtain ⟨t0, t1', t2, t3, t4⟩ := t
    simp only at *
    clear hf
    obtain ⟨n, hn⟩ : ∃ n, L.length = n := ⟨_, rfl⟩
    have HN : Hd (L.length = n) := ⟨hn⟩
    rw [hn] at t1 hw2 H hl DH SH GI ⊢
    clear hn hs
    go_enter Try.func7, Try.ntmps7
    go_upto_region 1 with fail
    rw [← hw2]
    clear hw2
    go_upto_region 3 with (go_at_call 8; refine I.mono ?_; rintro e w3 ⟨rfl, b3⟩)
    obtain ⟨x1, x2, x4⟩ := H.out w3 b3
    obtain ⟨⟨c0, c1⟩, -⟩ := x1.lane
    have DC := DH.out w3 x2
    have B3 : Hd (Below w2.heap.size w2 w3) := ⟨b3⟩
    clear x1 x2 x4 b3 I DH
    go_upto_region 5 with fail
    go_wp2_with fail
    go_at_call 12
    refine DC.mono ?_
    rintro e w4 ⟨⟨v4, rfl, a4, c4, rfl, l4⟩, b4⟩
    rw [HN.out]
    clear c0 c1 DC
    obtain ⟨w5, hw5⟩ : ∃ w5, w5 = (w4.alloc (.cells #[.int .u64 s, .slice a4 n c4] 25)).alloc (.cells #[.int .i64 t0, .int .i64 t1', .int .i64 t2, .int .i64 t3, .int .i64 t4] 27) := ⟨_, rfl⟩
    have BY := boxes w4 25 27 #[.int .u64 s, .slice a4 n c4] #[.int .i64 t0, .int .i64 t1', .int .i64 t2, .int .i64 t3, .int .i64 t4]
    rw [← hw5] at BY
    obtain ⟨q5, N5, M5⟩ := BY
    have B5 : Below w2.heap.size w2 w5 := (B3.out.trans (b4.mono B3.out.size)).trans (q5.mono (Nat.le_trans B3.out.size b4.size))
    obtain ⟨y1, y2, y3⟩ := H.out w5 B5
    have l5 := l4.carry q5
    clear B5 q5 M5 l4 b4 B3 H
    go_upto_region 6 with fail
    rw [← hw5]
    clear hw5
    generalize w4.heap.size = g7 at *
    obtain ⟨⟨c0, c1⟩, -⟩ := y1.lane
    obtain ⟨⟨d0, d1⟩, -⟩ := Blk.lane N5
    have R5 : Hd (SlR w5 a c L ∧ SlR w5 a4 c4 L ∧ Below w.heap.size w w5) := ⟨y2, l5, y3⟩
    have T := SH.out w5 a4 c4 l5 y2
    clear y1 y2 y3 N5 l5 SH
    go_wp2_with fail
    go_loopw [10] (fun i wr => ∃ j : Nat, j ≤ n ∧ i = .int .i64 j ∧ wr = w5) (fun i _ => n - (intOf i).toNat)
    case atStart => exact ⟨0, Nat.zero_le _, rfl, rfl⟩
    case round =>
      obtain ⟨j, hj, rfl, rfl⟩ := hrel
      by_cases hjn : j < n
      · obtain ⟨b, off, rfl, -, f0, -, -, -, -⟩ := R5.out.1.2.2.at (k := j) (by rw [HN.out]; exact hjn)
        have hne := GI.out j hjn
        have e' : ((gt L j).id == id) = false := by simpa using hne
        clear hne
        generalize (gt L j).id = z at *
        go_wp2_with fail
        go_roundw
        case rel => exact ⟨j + 1, by omega, by go_num, by trivial⟩
        case measure => simp [intOf]; omega
      · obtain rfl : j = n := by omega
        go_wp2_with (go_at_call 16; refine T.mono ?_; rintro e w6 ⟨rfl, b6⟩)
        go_ret
        exact ⟨rfl, R5.out.2.2.trans (b6.mono R5.out.2.2.size)⟩
end Go.Proofs.Ytbnjjckcnlfapaa
