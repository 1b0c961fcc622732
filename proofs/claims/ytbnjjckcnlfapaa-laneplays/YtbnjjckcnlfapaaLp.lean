/-
  The walk of 'LanePlays'. Conditions: the script lies in memory.
-/
import Derived.Test.YtbnjjckcnlfapaaPl
namespace Go.Proofs.Ytbnjjckcnlfapaa
open Go.RowKit

set_option maxRecDepth 20000 in
set_option maxHeartbeats 16000000 in
theorem plays_law (a : Option Addr) (n c : Nat) (o : Nat → Oq) (w : World) (h : OpR w a n o) :
    Calls Try.prog 4 #[.slice a n c] w fun e w' => e = .returned (.bool true) ∧ Below w.heap.size w w' := by
  have I := awake_ok w
  have HO : Hd (OpR w a n o) := ⟨h⟩
  have SH : Hd (∀ W z a1 a2 n1 c1 c2 X, X.length ≤ 2000 → X.length = n1 → SlR W a1 c1 X → SlR W a2 c2 X → (Calls Try.prog 16 #[.agg #[.int .u64 z, .slice a1 n1 c1], .agg #[.int .u64 z, .slice a2 n1 c2]] W fun e w' => e = .returned (.bool true) ∧ Below W.heap.size W w') ∧ (Calls Try.prog 22 #[.agg #[.int .u64 z, .slice a1 n1 c1]] W fun e w' => e = .returned (.int .i64 (seatsTo X n1)) ∧ Below W.heap.size W w') ∧ (Calls Try.prog 23 #[.agg #[.int .u64 z, .slice a2 n1 c2]] W fun e w' => e = .returned (.int .i64 (seatsTo X n1)) ∧ Below W.heap.size W w') ∧ (Calls Try.prog 19 #[.slice a1 n1 c1, .slice a2 n1 c2] W fun e w' => e = .returned (.bool true) ∧ Below W.heap.size W w')) := ⟨fun W z a1 a2 n1 c1 c2 X hX e1 q1 q2 => by
    subst e1
    exact ⟨samel_ok z a1 a2 c1 c2 X W q1.2.2 q2.2.2 hX, seats_ok z a1 c1 X W q1.2.2 hX, rseats_ok z a2 c2 X W q2.2.2 hX, same_ok a1 a2 c1 c2 X W q1.2.2 q2.2.2 hX⟩⟩
  clear h
  go_enter Try.func4, Try.ntmps4
  go_upto_region 3 with (go_at_call 8; refine I.mono ?_; rintro e w3 ⟨rfl, b3⟩)
  obtain ⟨w4, hw4⟩ : ∃ w4, w4 = (w3.alloc (.cells #[.int .u64 0, .slice none 0 0] 25)).alloc (.cells #[.int .u64 0, .slice none 0 0] 25) := ⟨_, rfl⟩
  have BX := boxes w3 25 25 #[.int .u64 0, .slice none 0 0] #[.int .u64 0, .slice none 0 0]
  rw [← hw4] at BX
  obtain ⟨B4, N3, N4⟩ := BX
  have nl : SlR w4 none 0 [] := ⟨Nat.le_refl _, fun _ => rfl, TkR.nil _ _⟩
  have X4 : Hd (PL w w4 w.heap.size w3.heap.size (w3.heap.size + 1) 0 []) := ⟨⟨none, 0, N3, nl⟩, ⟨none, 0, N4, nl⟩, b3.trans (B4.mono b3.size), b3.size, by have := b3.size; omega, by omega⟩
  clear b3 I B4 N3 N4 nl
  go_upto_region 4 with fail
  rw [← hw4]
  clear hw4
  generalize w3.heap.size = g3 at *
  go_wp2_with fail
  go_loopw [5] (fun i wr => ∃ k : Nat, k ≤ n ∧ k ≤ 200 ∧ i = .int .i64 k ∧ ∃ s L, Word s ∧ L.length ≤ k ∧ PL w wr w.heap.size g3 (g3 + 1) s L) (fun i _ => n - (intOf i).toNat)
  case atStart => exact ⟨0, Nat.zero_le _, Nat.zero_le _, rfl, 0, [], ⟨by decide, by decide⟩, Nat.le_refl _, X4.out⟩
  case round =>
    obtain ⟨k, hk, hk2, rfl, s, L, hs, hL, x⟩ := hrel
    by_cases hlt : k < n
    · by_cases hl2 : k < 200
      · obtain ⟨b, off, rfl, -, hc⟩ := (HO.out.carry x.bel) (by omega)
        obtain ⟨⟨y0, y1, y2, y3, y4, y5, y6, y7⟩, hr⟩ := hc k hlt
        obtain ⟨w6, hw6⟩ : ∃ w6, w6 = wr.alloc (.cells (opA (o k)) 42) := ⟨_, rfl⟩
        have q6 : Below wr.heap.size wr w6 := by rw [hw6]; exact alloc_below _ _
        have O6 : Blk w6 wr.heap.size 42 (opA (o k)) := by rw [hw6]; exact Blk.new _ _ _
        have P6 : Hd (PL w w6 w.heap.size g3 (g3 + 1) s L) := ⟨x.carry q6⟩
        have i1 : (k : Int) < (n : Int) := by omega
        have i2 : (k : Int) < 200 := by omega
        have HW : Hd (Word s ∧ Word (o k).rr ∧ L.length ≤ k) := ⟨hs, hr, hL⟩
        clear hc q6 x hs hr hL X4
        generalize o k = op at *
        obtain ⟨dd, rr, ⟨t0, t1, t2, t3, t4⟩, nn⟩ := op
        simp only [opA] at *
        obtain ⟨t, ht1, ht2⟩ : ∃ t : Nat, (IntKind.u64.wrap dd).tmod 4 = (t : Int) ∧ t < 4 := by
          refine ⟨((IntKind.u64.wrap dd) % 4).toNat, ?_⟩
          have h0 : 0 ≤ IntKind.u64.wrap dd := by rw [IntKind.wrap_u64]; omega
          rw [Int.tmod_eq_emod_of_nonneg h0]
          omega
        go_upto_region 8 with fail
        rw [← hw6]
        clear hw6 y0 y1 y2 y3 y4 y5 y6 y7
        have O6' : Blk w6 wr.heap.size 42 (opA ⟨dd, rr, ⟨t0, t1, t2, t3, t4⟩, nn⟩) := O6
        obtain ⟨y0, y1, y2, y3, y4, y5, y6, y7⟩ := O6'.eight
        have HB : Hd (Blk w6 wr.heap.size 42 (opA ⟨dd, rr, ⟨t0, t1, t2, t3, t4⟩, nn⟩)) := ⟨O6'⟩
        have HO6 : Hd (wr.heap.size < w6.heap.size) := ⟨O6'.lt⟩
        clear O6 O6'
        generalize wr.heap.size = ob at *
        simp only at y0 y1 y2 y3 y4 y5 y6 y7
        rcases (by omega : t = 0 ∨ t = 1 ∨ t = 2 ∨ t = 3) with rfl | rfl | rfl | rfl
        · have PD : PL w w6.drew w.heap.size g3 (g3 + 1) s L := P6.out.carry (Below.refl _ _).drew
          have OD : Blk w6.drew ob 42 (opA ⟨dd, rr, ⟨t0, t1, t2, t3, t4⟩, nn⟩) := HB.out
          obtain ⟨a3, c3, k3, r3⟩ := PD.l3
          obtain ⟨a4, c4, k4, r4⟩ := PD.l4
          obtain ⟨nz, hnz⟩ : ∃ nz, nz = L.length := ⟨_, rfl⟩
          have J1 := join_ok s rr a3 c3 L ⟨t0, t1, t2, t3, t4⟩ w6.drew r3 (by have := HW.out.2.2; omega)
          have J2 : Hd (∀ W, SlR W a4 c4 L → Calls Try.prog 18 #[.agg #[.int .u64 s, .slice a4 L.length c4], .int .u64 rr, .agg #[.int .i64 t0, .int .i64 t1, .int .i64 t2, .int .i64 t3, .int .i64 t4]] W fun e w' => (∃ v, e = .returned v ∧ LnV w' (jnS s rr L) (L ++ [(⟨t0, t1, t2, t3, t4⟩ : Tk)]) v) ∧ Below W.heap.size W w') := ⟨fun W q => rjoin_ok s rr a4 c4 L ⟨t0, t1, t2, t3, t4⟩ W q (by have := HW.out.2.2; omega)⟩
          have HZ : Hd (Word (jnS s rr L) ∧ (L ++ [(⟨t0, t1, t2, t3, t4⟩ : Tk)]).length ≤ k + 1) := ⟨jnS_word HW.out.1 HW.out.2.1, by have := HW.out.2.2; simp; omega⟩
          have OR : Hd (ob ≠ g3 ∧ ob ≠ g3 + 1) := ⟨OD.ne k3 (by decide), OD.ne k4 (by decide)⟩
          rw [← hnz] at k3 k4 J1 J2
          clear hnz
          generalize jnS s rr L = sz at *
          generalize L ++ [(⟨t0, t1, t2, t3, t4⟩ : Tk)] = Lz at *
          simp only at J1
          go_upto_region 12 with fail
          clear y0 y1 y2 y3 y4 y5 y6 y7
          refine AnyG.start (T := fun W => Blk W ob 42 (opA ⟨dd, rr, ⟨t0, t1, t2, t3, t4⟩, nn⟩)) (U := fun W => Blk W g3 25 (lnA s (.slice a3 nz c3)) ∧ Blk W (g3 + 1) 25 (lnA s (.slice a4 nz c4))) (j0 := 12) (by kernel_rfl) ?_
          generalize w6.drew = w0 at *
          have E0 : Hd (∀ W, Blk W ob 42 (opA ⟨dd, rr, ⟨t0, t1, t2, t3, t4⟩, nn⟩) → W.cell? ⟨ob, 1, none⟩ = some (.int .u64 rr)) := ⟨fun W q => q.eight.2.1⟩
          have E1 : Hd (∀ W, Blk W ob 42 (opA ⟨dd, rr, ⟨t0, t1, t2, t3, t4⟩, nn⟩) → W.cell? ⟨ob, 2, none⟩ = some (.int .i64 t0) ∧ W.cell? ⟨ob, 3, none⟩ = some (.int .i64 t1) ∧ W.cell? ⟨ob, 4, none⟩ = some (.int .i64 t2) ∧ W.cell? ⟨ob, 5, none⟩ = some (.int .i64 t3) ∧ W.cell? ⟨ob, 6, none⟩ = some (.int .i64 t4)) := ⟨fun W q => ⟨q.eight.2.2.1, q.eight.2.2.2.1, q.eight.2.2.2.2.1, q.eight.2.2.2.2.2.1, q.eight.2.2.2.2.2.2.1⟩⟩
          refine .er 0 51 ⟨OD, fun _ => ⟨k3, k4⟩⟩ ?_ (hy := fun w hSw => by have s := hSw.2.1.lane.1; go_simp; rfl); simp only [oqA, oqB, oqC]
          refine .tr 1 52 ⟨OD, fun _ => ⟨k3, k4⟩⟩ ?_; simp only [oqA, oqB, oqC]
          refine .tr 2 53 ⟨OD, fun _ => ⟨k3, k4⟩⟩ ?_ (hy := fun w hSw => by have s := E0.out w hSw; go_simp; rfl); simp only [oqA, oqB, oqC]
          refine .tr 3 54 ⟨OD, fun _ => ⟨k3, k4⟩⟩ ?_; simp only [oqA, oqB, oqC]
          refine .tr 4 55 ⟨OD, fun _ => ⟨k3, k4⟩⟩ ?_ (hy := fun w hSw => by have s := E1.out w hSw; go_simp; rfl); simp only [oqA, oqB, oqC]
          refine AnyG.e2 6 57 11 ⟨OD, fun _ => ⟨k3, k4⟩⟩ ?_ (hy := fun w hSw => by have s := hSw.2.2.lane.1; go_simp; rfl); simp only [oqA, oqB, oqC]
          refine .tr 7 58 ⟨OD, fun _ => ⟨k3, k4⟩⟩ ?_; simp only [oqA, oqB, oqC]
          refine .tr 8 59 ⟨OD, fun _ => ⟨k3, k4⟩⟩ ?_ (hy := fun w hSw => by have s := E0.out w hSw; go_simp; rfl); simp only [oqA, oqB, oqC]
          refine .tr 9 60 ⟨OD, fun _ => ⟨k3, k4⟩⟩ ?_; simp only [oqA, oqB, oqC]
          refine .tr 10 61 ⟨OD, fun _ => ⟨k3, k4⟩⟩ ?_ (hy := fun w hSw => by have s := E1.out w hSw; go_simp; rfl); simp only [oqA, oqB, oqC]
          refine AnyG.ready (rs := [5]) (by kernel_rfl) (by simp) ?_
          refine AllG.cons rfl (fun K hK => ?_) AllG.nil
          go_simp
          refine J1.mono ?_
          rintro e w1 ⟨⟨v1, rfl, a1, c1, rfl, l1⟩, b1⟩
          have O1 := Blk.carry OD b1
          have m3 := Blk.carry k3 b1
          have m4 := Blk.carry k4 b1
          have P1 := PD.carry b1
          refine hK.out _ _ ⟨O1, fun _ => ⟨m3, m4⟩⟩ ?_
          clear hK K J1
          have J3 := J2.out w1 (r4.carry b1)
          refine AnyG.ready (rs := [11]) (by kernel_rfl) (by simp) ?_
          refine AllG.cons rfl (fun K hK => ?_) AllG.nil
          go_simp
          refine J3.mono ?_
          rintro e w2 ⟨⟨v2, rfl, a2, c2, rfl, l2⟩, b2⟩
          have O2 := Blk.carry O1 b2
          have P2 := P1.carry b2
          refine hK.out _ _ ⟨O2, fun _ => ⟨Blk.carry m3 b2, Blk.carry m4 b2⟩⟩ ?_
          clear hK K J2 J3
          obtain ⟨nn1, hn1⟩ : ∃ nn1, Lz.length = nn1 := ⟨_, rfl⟩
          rw [hn1]
          obtain ⟨⟨p1, p2, p3, p4, z1, z2⟩, q1, q2, Pz⟩ := P2.put (s' := sz) hn1 (l1.carry b2) l2
          clear hn1
          obtain ⟨⟨r0, r1⟩, f0, f1⟩ := z1.lane
          obtain ⟨⟨u0, u1⟩, f2, f3⟩ := z2.lane
          refine AnyG.ready (rs := [12]) (by kernel_rfl) (by simp) ?_
          refine AllG.cons rfl (fun K hK => ?_) AllG.nil
          go_simp
          refine hK.out _ _ ⟨O2.kept q1 OR.out.1, fun h => by simp at h⟩ ?_
          clear hK K
          refine AnyG.ready (rs := [13]) (by kernel_rfl) (by simp) ?_
          refine AllG.cons rfl (fun K hK => ?_) AllG.nil
          go_simp
          refine hK.out _ _ ⟨O2.kept q2 (fun e => e.elim OR.out.1 OR.out.2), fun h => by simp at h⟩ ?_
          clear hK K
          refine AnyG.done (by kernel_rfl) ?_ _
          have PZ : Hd _ := ⟨Pz⟩
          clear Pz q1 q2 z1 z2 P2 O2 P1 O1 m3 m4 l1 l2 b1 b2 r0 r1 f0 f1 u0 u1 f2 f3 OD PD k3 k4 r3 r4 E0 E1 P6 HB HW
          generalize World.setCell _ _ _ = wz at *
          go_upto_region 25 with fail
          obtain ⟨a3, c3, k3, r3⟩ := PZ.out.l3
          obtain ⟨a4, c4, k4, r4⟩ := PZ.out.l4
          have DR : Below wz.heap.size wz wz.drew := (Below.refl _ _).drew
          have M3 : Blk wz.drew g3 25 (lnA sz (.slice a3 Lz.length c3)) := k3
          have M4 : Blk wz.drew (g3 + 1) 25 (lnA sz (.slice a4 Lz.length c4)) := k4
          have R3 := r3.carry DR
          have R4 := r4.carry DR
          have PD : Hd (PL w wz.drew w.heap.size g3 (g3 + 1) sz Lz) := ⟨PZ.out.carry DR⟩
          obtain ⟨nz, hnz⟩ : ∃ nz, nz = Lz.length := ⟨_, rfl⟩
          have EZ : Hd (Lz.length = nz) := ⟨hnz.symm⟩
          rw [← hnz] at M3 M4
          clear hnz k3 k4 r3 r4 DR PZ
          refine AnyG.start (T := fun W => Below wz.drew.heap.size wz.drew W) (U := fun _ => True) (j0 := 100) (by kernel_rfl) ?_
          generalize wz.drew = w0 at *
          have S0 : Hd (∀ W, Below w0.heap.size w0 W → (SlR W a3 c3 Lz ∧ SlR W a4 c4 Lz) ∧ PL w W w.heap.size g3 (g3 + 1) sz Lz) := ⟨fun W q => ⟨⟨R3.carry q, R4.carry q⟩, PD.out.carry q⟩⟩
          have X3 : Hd (∀ W, Below w0.heap.size w0 W → W.cell? ⟨g3, 0, none⟩ = some (.int .u64 sz) ∧ W.cell? ⟨g3, 1, none⟩ = some (.slice a3 nz c3)) := ⟨fun W q => (Blk.carry M3 q).lane.1⟩
          have X4 : Hd (∀ W, Below w0.heap.size w0 W → W.cell? ⟨g3 + 1, 0, none⟩ = some (.int .u64 sz) ∧ W.cell? ⟨g3 + 1, 1, none⟩ = some (.slice a4 nz c4)) := ⟨fun W q => (Blk.carry M4 q).lane.1⟩
          have hz : Hd (Lz.length ≤ 2000) := ⟨by have := HZ.out.2; omega⟩
          have R0 := Below.refl w0.heap.size w0
          clear M3 M4 R3 R4 PD
          refine .tq 0 119 R0 ?_ (hy := fun w hSw => by have s := X3.out w hSw; go_simp; rfl); simp only [oqA, oqB, oqC]
          refine .tq 1 120 R0 ?_ (hy := fun w hSw => by have s := X4.out w hSw; go_simp; rfl); simp only [oqA, oqB, oqC]
          have T := (SH.out w0 sz a3 a4 nz c3 c4 Lz hz.out EZ.out (S0.out w0 R0).1.1 (S0.out w0 R0).1.2).1
          refine AnyG.ready (rs := [2]) (by kernel_rfl) (by simp) ?_
          refine AllG.cons rfl (fun K hK => ?_) AllG.nil
          go_simp
          refine T.mono ?_
          rintro e w1 ⟨rfl, b1⟩
          have R1 := R0.trans (b1.mono R0.size)
          refine hK.out _ _ ⟨R1, fun _ => trivial⟩ ?_
          clear hK K T
          refine .tq 3 122 R1 ?_; simp only [oqA, oqB, oqC]
          refine .tq 4 123 R1 ?_; simp only [oqA, oqB, oqC]
          refine .tq 5 124 R1 ?_ (hy := fun w hSw => by have s := X3.out w hSw; go_simp; rfl); simp only [oqA, oqB, oqC]
          refine .tq 7 126 R1 ?_ (hy := fun w hSw => by have s := X4.out w hSw; go_simp; rfl); simp only [oqA, oqB, oqC]
          have T := (SH.out w1 sz a3 a4 nz c3 c4 Lz hz.out EZ.out (S0.out w1 R1).1.1 (S0.out w1 R1).1.2).2.1
          refine AnyG.ready (rs := [6]) (by kernel_rfl) (by simp) ?_
          refine AllG.cons rfl (fun K hK => ?_) AllG.nil
          go_simp
          refine T.mono ?_
          rintro e w2 ⟨rfl, b2⟩
          have R2 := R1.trans (b2.mono R1.size)
          refine hK.out _ _ ⟨R2, fun _ => trivial⟩ ?_
          clear hK K T
          have T := (SH.out w2 sz a3 a4 nz c3 c4 Lz hz.out EZ.out (S0.out w2 R2).1.1 (S0.out w2 R2).1.2).2.2.1
          refine AnyG.ready (rs := [8]) (by kernel_rfl) (by simp) ?_
          refine AllG.cons rfl (fun K hK => ?_) AllG.nil
          go_simp
          refine T.mono ?_
          rintro e w3 ⟨rfl, b3⟩
          have R3 := R2.trans (b3.mono R2.size)
          refine hK.out _ _ ⟨R3, fun _ => trivial⟩ ?_
          clear hK K T
          refine .tq (v := .bool false) 9 128 R3 ?_ (hy := fun w hSw => by go_simp; first | done | simp); simp only [oqA, oqB, oqC]
          refine .tq 10 129 R3 ?_; simp only [oqA, oqB, oqC]
          refine AnyG.done (by kernel_rfl) ?_ _
          have Q : Hd _ := ⟨(S0.out w3 R3).2⟩
          clear S0 X3 X4 R0 R1 R2 R3 b1 b2 b3
          go_wp2_with fail
          go_roundw
          case rel => exact ⟨k + 1, by omega, by omega, by go_num, sz, Lz, HZ.out.1, HZ.out.2, Q.out⟩
          case measure => simp [intOf]; omega
        · have G7 : Hd (g3 + 1 < w6.heap.size) := ⟨by obtain ⟨_, _, p4, _⟩ := P6.out.l4; exact p4.lt⟩
          obtain ⟨a3, c3, k3, r3⟩ := P6.out.l3
          obtain ⟨a4, c4, k4, r4⟩ := P6.out.l4
          have J1 := take_ok s a3 c3 L nn w6 HW.out.1 r3 (by have := HW.out.2.2; omega)
          have J2 : Hd (∀ W, SlR W a4 c4 L → Calls Try.prog 11 #[.agg #[.int .u64 s, .slice a4 L.length c4], .int .i64 nn] W fun e w' => (∃ v, e = .returned (.tuple #[v, .agg #[.int .i64 (gt L 0).id, .int .i64 (gt L 0).wid, .int .i64 (gt L 0).sts, .int .i64 (gt L 0).sin, .int .i64 (gt L 0).unt], .bool (hasI L)]) ∧ LnV w' (tkS s L nn) (L.tail) v) ∧ Below W.heap.size W w') := ⟨fun W q => rtake_ok s a4 c4 L nn W HW.out.1 q (by have := HW.out.2.2; omega)⟩
          have HZ : Hd (Word (tkS s L nn) ∧ (L.tail).length ≤ k + 1) := ⟨tkS_word HW.out.1, by have := HW.out.2.2; rw [List.length_tail]; omega⟩
          obtain ⟨nz, hnz⟩ : ∃ nz, nz = L.length := ⟨_, rfl⟩
          rw [← hnz] at k3 k4 J1 J2
          clear hnz
          generalize L.tail = Lz at *
          generalize hasI L = okz at *
          generalize gt L 0 = tz at *
          generalize tkS s L nn = sz at *
          obtain ⟨q0, q1, q2, q3, q4⟩ := tz
          simp only at J1 J2
          obtain ⟨⟨r0, r1⟩, -⟩ := k3.lane
          go_upto_region 14 with fail
          clear y0 y1 y2 y3 y4 y5 y6
          go_wp2_with fail
          go_at_call 10
          refine J1.mono ?_
          rintro e w7 ⟨⟨v7, rfl, a7, c7, rfl, l7⟩, b7⟩
          obtain ⟨nn1, hn1⟩ : ∃ nn1, Lz.length = nn1 := ⟨_, rfl⟩
          have HN : Hd (Lz.length = nn1) := ⟨hn1⟩
          rw [hn1]
          clear J1 r0 r1 y7 hn1
          obtain ⟨w8, hw8⟩ : ∃ w8, w8 = (w7.alloc (.cells #[.int .u64 sz, .slice a7 nn1 c7] 25)).alloc (.cells #[.int .i64 q0, .int .i64 q1, .int .i64 q2, .int .i64 q3, .int .i64 q4] 27) := ⟨_, rfl⟩
          have BY := boxes w7 25 27 #[.int .u64 sz, .slice a7 nn1 c7] #[.int .i64 q0, .int .i64 q1, .int .i64 q2, .int .i64 q3, .int .i64 q4]
          rw [← hw8] at BY
          obtain ⟨B8, N7, N8⟩ := BY
          have B68 : Below w6.heap.size w6 w8 := b7.trans (B8.mono b7.size)
          have l8 := l7.carry B8
          have J3 := J2.out w8 (r4.carry B68)
          obtain ⟨⟨r0, r1⟩, -⟩ := (Blk.carry k4 B68).lane
          have y7 := (Blk.carry HB.out B68).eight.2.2.2.2.2.2.2
          simp only at y7
          have G8 : Hd (g3 + 1 < w7.heap.size) := ⟨Nat.lt_of_lt_of_le G7.out b7.size⟩
          have H8 : Hd (∀ W, Below w8.heap.size w8 W → Blk W w7.heap.size 25 (lnA sz (.slice a7 nn1 c7)) ∧ Blk W (w7.heap.size + 1) 27 (tkA ⟨q0, q1, q2, q3, q4⟩) ∧ SlR W a7 c7 Lz ∧ PL w W w.heap.size g3 (g3 + 1) s L) := ⟨fun W q => ⟨Blk.carry N7 q, Blk.carry N8 q, l8.carry q, (P6.out.carry B68).carry q⟩⟩
          clear B8 N7 N8 B68 l8 l7 b7 J2 r3 r4 k3 k4
          go_upto_region 15 with fail
          rw [← hw8]
          clear hw8
          generalize w7.heap.size = g7 at *
          go_wp2_with fail
          go_at_call 11
          refine J3.mono ?_
          rintro e w9 ⟨⟨v9, rfl, a9, c9, rfl, l9⟩, b9⟩
          rw [HN.out]
          clear J3 r0 r1 y7
          obtain ⟨wa, hwa⟩ : ∃ wa, wa = (w9.alloc (.cells #[.int .u64 sz, .slice a9 nn1 c9] 25)).alloc (.cells #[.int .i64 q0, .int .i64 q1, .int .i64 q2, .int .i64 q3, .int .i64 q4] 27) := ⟨_, rfl⟩
          have BY := boxes w9 25 27 #[.int .u64 sz, .slice a9 nn1 c9] #[.int .i64 q0, .int .i64 q1, .int .i64 q2, .int .i64 q3, .int .i64 q4]
          rw [← hwa] at BY
          obtain ⟨Ba, N9, Na⟩ := BY
          have B8a : Below w8.heap.size w8 wa := b9.trans (Ba.mono b9.size)
          have la := l9.carry Ba
          obtain ⟨e1, e2, e3, e4⟩ := H8.out wa B8a
          obtain ⟨⟨r0, r1, r2, r3, r4⟩, -⟩ := e2.five
          obtain ⟨⟨f0, f1, f2, f3, f4⟩, -⟩ := Blk.five (t := ⟨q0, q1, q2, q3, q4⟩) Na
          simp only at r0 r1 r2 r3 r4 f0 f1 f2 f3 f4
          have Ha : Hd (Blk wa g7 25 (lnA sz (.slice a7 nn1 c7)) ∧ SlR wa a7 c7 Lz ∧ PL w wa w.heap.size g3 (g3 + 1) s L ∧ Blk wa w9.heap.size 25 (lnA sz (.slice a9 nn1 c9)) ∧ SlR wa a9 c9 Lz ∧ (g7 ≠ g3 ∧ g7 ≠ g3 + 1 ∧ w9.heap.size ≠ g3 ∧ w9.heap.size ≠ g3 + 1)) := ⟨e1, e3, e4, N9, la, by
            obtain ⟨_, _, p5, _⟩ := (H8.out w8 (Below.refl _ _)).2.2.2.l4
            have h3 := p5.lt
            have h4 := b9.size
            have h5 := G8.out
            omega⟩
          clear Ba N9 Na B8a la e1 e2 e3 e4 l9 b9 H8
          go_upto_region 16 with fail
          rw [← hwa]
          clear hwa
          generalize w9.heap.size = ga at *
          go_upto_region 18 with fail
          clear r0 r1 r2 r3 r4 f0 f1 f2 f3 f4
          have DR : Below wa.heap.size wa wa.drew := (Below.refl _ _).drew
          have K7 : Blk wa.drew g7 25 (lnA sz (.slice a7 nn1 c7)) := Ha.out.1
          have Ka : Blk wa.drew ga 25 (lnA sz (.slice a9 nn1 c9)) := Ha.out.2.2.2.1
          obtain ⟨⟨p1, p2, p3, p4, z1, z2⟩, u1, u2, Pz⟩ := (Ha.out.2.2.1.carry DR).put (s' := sz) HN.out (Ha.out.2.1.carry DR) (Ha.out.2.2.2.2.1.carry DR)
          have NE := Ha.out.2.2.2.2.2
          refine AnyG.start (T := fun W => Kept (fun k => k = g3 ∨ k = g3 + 1) wa.drew W) (U := fun _ => True) (j0 := 100) (by kernel_rfl) ?_
          generalize wa.drew = w0 at *
          have R0 : Kept (fun k => k = g3 ∨ k = g3 + 1) w0 w0 := Kept.refl _ _
          have X0 : Hd (∀ W, Kept (fun k => k = g3 ∨ k = g3 + 1) w0 W → W.cell? ⟨g7, 0, none⟩ = some (.int .u64 sz) ∧ W.cell? ⟨g7, 1, none⟩ = some (.slice a7 nn1 c7)) := ⟨fun W q => (K7.kept q (by omega)).lane.1⟩
          have X1 : Hd (∀ W, Kept (fun k => k = g3 ∨ k = g3 + 1) w0 W → W.cell? ⟨ga, 0, none⟩ = some (.int .u64 sz) ∧ W.cell? ⟨ga, 1, none⟩ = some (.slice a9 nn1 c9)) := ⟨fun W q => (Ka.kept q (by omega)).lane.1⟩
          obtain ⟨⟨r0, r1⟩, f0, f1⟩ := z1.lane
          obtain ⟨⟨r2, r3⟩, f2, f3⟩ := z2.lane
          refine .tq 0 89 R0 ?_ (hy := fun w hSw => by have s := X0.out w hSw; go_simp; rfl); simp only [oqA, oqB, oqC]
          refine .tq 1 90 R0 ?_ (hy := fun w hSw => by have s := X1.out w hSw; go_simp; rfl); simp only [oqA, oqB, oqC]
          refine AnyG.ready (rs := [2]) (by kernel_rfl) (by simp) ?_
          refine AllG.cons rfl (fun K hK => ?_) AllG.nil
          go_simp
          refine hK.out _ _ ⟨u1.mono (fun _ _ e => .inl e), fun _ => trivial⟩ ?_
          clear hK K
          refine AnyG.ready (rs := [3]) (by kernel_rfl) (by simp) ?_
          refine AllG.cons rfl (fun K hK => ?_) AllG.nil
          go_simp
          refine hK.out _ _ ⟨u2, fun _ => trivial⟩ ?_
          clear hK K
          refine AnyG.done (by kernel_rfl) ?_ _
          have PZ : Hd _ := ⟨Pz⟩
          clear Pz u1 u2 z1 z2 r0 r1 r2 r3 f0 f1 f2 f3 X0 X1 R0 K7 Ka Ha NE DR P6 HB HW
          generalize World.setCell _ _ _ = wz at *
          go_upto_region 25 with fail
          obtain ⟨a3, c3, k3, r3⟩ := PZ.out.l3
          obtain ⟨a4, c4, k4, r4⟩ := PZ.out.l4
          have DR : Below wz.heap.size wz wz.drew := (Below.refl _ _).drew
          have M3 : Blk wz.drew g3 25 (lnA sz (.slice a3 Lz.length c3)) := k3
          have M4 : Blk wz.drew (g3 + 1) 25 (lnA sz (.slice a4 Lz.length c4)) := k4
          have R3 := r3.carry DR
          have R4 := r4.carry DR
          have PD : Hd (PL w wz.drew w.heap.size g3 (g3 + 1) sz Lz) := ⟨PZ.out.carry DR⟩
          obtain ⟨nz, hnz⟩ : ∃ nz, nz = Lz.length := ⟨_, rfl⟩
          have EZ : Hd (Lz.length = nz) := ⟨hnz.symm⟩
          rw [← hnz] at M3 M4
          clear hnz k3 k4 r3 r4 DR PZ
          refine AnyG.start (T := fun W => Below wz.drew.heap.size wz.drew W) (U := fun _ => True) (j0 := 100) (by kernel_rfl) ?_
          generalize wz.drew = w0 at *
          have S0 : Hd (∀ W, Below w0.heap.size w0 W → (SlR W a3 c3 Lz ∧ SlR W a4 c4 Lz) ∧ PL w W w.heap.size g3 (g3 + 1) sz Lz) := ⟨fun W q => ⟨⟨R3.carry q, R4.carry q⟩, PD.out.carry q⟩⟩
          have X3 : Hd (∀ W, Below w0.heap.size w0 W → W.cell? ⟨g3, 0, none⟩ = some (.int .u64 sz) ∧ W.cell? ⟨g3, 1, none⟩ = some (.slice a3 nz c3)) := ⟨fun W q => (Blk.carry M3 q).lane.1⟩
          have X4 : Hd (∀ W, Below w0.heap.size w0 W → W.cell? ⟨g3 + 1, 0, none⟩ = some (.int .u64 sz) ∧ W.cell? ⟨g3 + 1, 1, none⟩ = some (.slice a4 nz c4)) := ⟨fun W q => (Blk.carry M4 q).lane.1⟩
          have hz : Hd (Lz.length ≤ 2000) := ⟨by have := HZ.out.2; omega⟩
          have R0 := Below.refl w0.heap.size w0
          clear M3 M4 R3 R4 PD
          refine .tq 0 119 R0 ?_ (hy := fun w hSw => by have s := X3.out w hSw; go_simp; rfl); simp only [oqA, oqB, oqC]
          refine .tq 1 120 R0 ?_ (hy := fun w hSw => by have s := X4.out w hSw; go_simp; rfl); simp only [oqA, oqB, oqC]
          have T := (SH.out w0 sz a3 a4 nz c3 c4 Lz hz.out EZ.out (S0.out w0 R0).1.1 (S0.out w0 R0).1.2).1
          refine AnyG.ready (rs := [2]) (by kernel_rfl) (by simp) ?_
          refine AllG.cons rfl (fun K hK => ?_) AllG.nil
          go_simp
          refine T.mono ?_
          rintro e w1 ⟨rfl, b1⟩
          have R1 := R0.trans (b1.mono R0.size)
          refine hK.out _ _ ⟨R1, fun _ => trivial⟩ ?_
          clear hK K T
          refine .tq 3 122 R1 ?_; simp only [oqA, oqB, oqC]
          refine .tq 4 123 R1 ?_; simp only [oqA, oqB, oqC]
          refine .tq 5 124 R1 ?_ (hy := fun w hSw => by have s := X3.out w hSw; go_simp; rfl); simp only [oqA, oqB, oqC]
          refine .tq 7 126 R1 ?_ (hy := fun w hSw => by have s := X4.out w hSw; go_simp; rfl); simp only [oqA, oqB, oqC]
          have T := (SH.out w1 sz a3 a4 nz c3 c4 Lz hz.out EZ.out (S0.out w1 R1).1.1 (S0.out w1 R1).1.2).2.1
          refine AnyG.ready (rs := [6]) (by kernel_rfl) (by simp) ?_
          refine AllG.cons rfl (fun K hK => ?_) AllG.nil
          go_simp
          refine T.mono ?_
          rintro e w2 ⟨rfl, b2⟩
          have R2 := R1.trans (b2.mono R1.size)
          refine hK.out _ _ ⟨R2, fun _ => trivial⟩ ?_
          clear hK K T
          have T := (SH.out w2 sz a3 a4 nz c3 c4 Lz hz.out EZ.out (S0.out w2 R2).1.1 (S0.out w2 R2).1.2).2.2.1
          refine AnyG.ready (rs := [8]) (by kernel_rfl) (by simp) ?_
          refine AllG.cons rfl (fun K hK => ?_) AllG.nil
          go_simp
          refine T.mono ?_
          rintro e w3 ⟨rfl, b3⟩
          have R3 := R2.trans (b3.mono R2.size)
          refine hK.out _ _ ⟨R3, fun _ => trivial⟩ ?_
          clear hK K T
          refine .tq (v := .bool false) 9 128 R3 ?_ (hy := fun w hSw => by go_simp; first | done | simp); simp only [oqA, oqB, oqC]
          refine .tq 10 129 R3 ?_; simp only [oqA, oqB, oqC]
          refine AnyG.done (by kernel_rfl) ?_ _
          have Q : Hd _ := ⟨(S0.out w3 R3).2⟩
          clear S0 X3 X4 R0 R1 R2 R3 b1 b2 b3
          go_wp2_with fail
          go_roundw
          case rel => exact ⟨k + 1, by omega, by omega, by go_num, sz, Lz, HZ.out.1, HZ.out.2, Q.out⟩
          case measure => simp [intOf]; omega
        · have G7 : Hd (g3 + 1 < w6.heap.size) := ⟨by obtain ⟨_, _, p4, _⟩ := P6.out.l4; exact p4.lt⟩
          obtain ⟨a3, c3, k3, r3⟩ := P6.out.l3
          obtain ⟨a4, c4, k4, r4⟩ := P6.out.l4
          have J1 := drop_ok s a3 c3 L nn w6 r3 (by have := HW.out.2.2; omega)
          have J2 : Hd (∀ W, SlR W a4 c4 L → Calls Try.prog 13 #[.agg #[.int .u64 s, .slice a4 L.length c4], .int .i64 nn] W fun e w' => (∃ v, e = .returned (.tuple #[v, .agg #[.int .i64 (drT nn L).id, .int .i64 (drT nn L).wid, .int .i64 (drT nn L).sts, .int .i64 (drT nn L).sin, .int .i64 (drT nn L).unt], .bool (drB nn L)]) ∧ LnV w' (s) (drL nn L) v) ∧ Below W.heap.size W w') := ⟨fun W q => rdrop_ok s a4 c4 L nn W q (by have := HW.out.2.2; omega)⟩
          have HZ : Hd (Word (s) ∧ (drL nn L).length ≤ k + 1) := ⟨HW.out.1, by have := HW.out.2.2; have := drL_len nn L; omega⟩
          obtain ⟨nz, hnz⟩ : ∃ nz, nz = L.length := ⟨_, rfl⟩
          rw [← hnz] at k3 k4 J1 J2
          clear hnz
          generalize drL nn L = Lz at *
          generalize drB nn L = okz at *
          generalize drT nn L = tz at *
          obtain ⟨q0, q1, q2, q3, q4⟩ := tz
          simp only at J1 J2
          obtain ⟨⟨r0, r1⟩, -⟩ := k3.lane
          go_upto_region 20 with fail
          clear y0 y1 y2 y3 y4 y5 y6
          go_wp2_with fail
          go_at_call 12
          refine J1.mono ?_
          rintro e w7 ⟨⟨v7, rfl, a7, c7, rfl, l7⟩, b7⟩
          obtain ⟨nn1, hn1⟩ : ∃ nn1, Lz.length = nn1 := ⟨_, rfl⟩
          have HN : Hd (Lz.length = nn1) := ⟨hn1⟩
          rw [hn1]
          clear J1 r0 r1 y7 hn1
          obtain ⟨w8, hw8⟩ : ∃ w8, w8 = (w7.alloc (.cells #[.int .u64 s, .slice a7 nn1 c7] 25)).alloc (.cells #[.int .i64 q0, .int .i64 q1, .int .i64 q2, .int .i64 q3, .int .i64 q4] 27) := ⟨_, rfl⟩
          have BY := boxes w7 25 27 #[.int .u64 s, .slice a7 nn1 c7] #[.int .i64 q0, .int .i64 q1, .int .i64 q2, .int .i64 q3, .int .i64 q4]
          rw [← hw8] at BY
          obtain ⟨B8, N7, N8⟩ := BY
          have B68 : Below w6.heap.size w6 w8 := b7.trans (B8.mono b7.size)
          have l8 := l7.carry B8
          have J3 := J2.out w8 (r4.carry B68)
          obtain ⟨⟨r0, r1⟩, -⟩ := (Blk.carry k4 B68).lane
          have y7 := (Blk.carry HB.out B68).eight.2.2.2.2.2.2.2
          simp only at y7
          have G8 : Hd (g3 + 1 < w7.heap.size) := ⟨Nat.lt_of_lt_of_le G7.out b7.size⟩
          have H8 : Hd (∀ W, Below w8.heap.size w8 W → Blk W w7.heap.size 25 (lnA s (.slice a7 nn1 c7)) ∧ Blk W (w7.heap.size + 1) 27 (tkA ⟨q0, q1, q2, q3, q4⟩) ∧ SlR W a7 c7 Lz ∧ PL w W w.heap.size g3 (g3 + 1) s L) := ⟨fun W q => ⟨Blk.carry N7 q, Blk.carry N8 q, l8.carry q, (P6.out.carry B68).carry q⟩⟩
          clear B8 N7 N8 B68 l8 l7 b7 J2 r3 r4 k3 k4
          go_upto_region 21 with fail
          rw [← hw8]
          clear hw8
          generalize w7.heap.size = g7 at *
          go_wp2_with fail
          go_at_call 13
          refine J3.mono ?_
          rintro e w9 ⟨⟨v9, rfl, a9, c9, rfl, l9⟩, b9⟩
          rw [HN.out]
          clear J3 r0 r1 y7
          obtain ⟨wa, hwa⟩ : ∃ wa, wa = (w9.alloc (.cells #[.int .u64 s, .slice a9 nn1 c9] 25)).alloc (.cells #[.int .i64 q0, .int .i64 q1, .int .i64 q2, .int .i64 q3, .int .i64 q4] 27) := ⟨_, rfl⟩
          have BY := boxes w9 25 27 #[.int .u64 s, .slice a9 nn1 c9] #[.int .i64 q0, .int .i64 q1, .int .i64 q2, .int .i64 q3, .int .i64 q4]
          rw [← hwa] at BY
          obtain ⟨Ba, N9, Na⟩ := BY
          have B8a : Below w8.heap.size w8 wa := b9.trans (Ba.mono b9.size)
          have la := l9.carry Ba
          obtain ⟨e1, e2, e3, e4⟩ := H8.out wa B8a
          obtain ⟨⟨r0, r1, r2, r3, r4⟩, -⟩ := e2.five
          obtain ⟨⟨f0, f1, f2, f3, f4⟩, -⟩ := Blk.five (t := ⟨q0, q1, q2, q3, q4⟩) Na
          simp only at r0 r1 r2 r3 r4 f0 f1 f2 f3 f4
          have Ha : Hd (Blk wa g7 25 (lnA s (.slice a7 nn1 c7)) ∧ SlR wa a7 c7 Lz ∧ PL w wa w.heap.size g3 (g3 + 1) s L ∧ Blk wa w9.heap.size 25 (lnA s (.slice a9 nn1 c9)) ∧ SlR wa a9 c9 Lz ∧ (g7 ≠ g3 ∧ g7 ≠ g3 + 1 ∧ w9.heap.size ≠ g3 ∧ w9.heap.size ≠ g3 + 1)) := ⟨e1, e3, e4, N9, la, by
            obtain ⟨_, _, p5, _⟩ := (H8.out w8 (Below.refl _ _)).2.2.2.l4
            have h3 := p5.lt
            have h4 := b9.size
            have h5 := G8.out
            omega⟩
          clear Ba N9 Na B8a la e1 e2 e3 e4 l9 b9 H8
          go_upto_region 22 with fail
          rw [← hwa]
          clear hwa
          generalize w9.heap.size = ga at *
          go_upto_region 24 with fail
          clear r0 r1 r2 r3 r4 f0 f1 f2 f3 f4
          have DR : Below wa.heap.size wa wa.drew := (Below.refl _ _).drew
          have K7 : Blk wa.drew g7 25 (lnA s (.slice a7 nn1 c7)) := Ha.out.1
          have Ka : Blk wa.drew ga 25 (lnA s (.slice a9 nn1 c9)) := Ha.out.2.2.2.1
          obtain ⟨⟨p1, p2, p3, p4, z1, z2⟩, u1, u2, Pz⟩ := (Ha.out.2.2.1.carry DR).put (s' := s) HN.out (Ha.out.2.1.carry DR) (Ha.out.2.2.2.2.1.carry DR)
          have NE := Ha.out.2.2.2.2.2
          refine AnyG.start (T := fun W => Kept (fun k => k = g3 ∨ k = g3 + 1) wa.drew W) (U := fun _ => True) (j0 := 100) (by kernel_rfl) ?_
          generalize wa.drew = w0 at *
          have R0 : Kept (fun k => k = g3 ∨ k = g3 + 1) w0 w0 := Kept.refl _ _
          have X0 : Hd (∀ W, Kept (fun k => k = g3 ∨ k = g3 + 1) w0 W → W.cell? ⟨g7, 0, none⟩ = some (.int .u64 s) ∧ W.cell? ⟨g7, 1, none⟩ = some (.slice a7 nn1 c7)) := ⟨fun W q => (K7.kept q (by omega)).lane.1⟩
          have X1 : Hd (∀ W, Kept (fun k => k = g3 ∨ k = g3 + 1) w0 W → W.cell? ⟨ga, 0, none⟩ = some (.int .u64 s) ∧ W.cell? ⟨ga, 1, none⟩ = some (.slice a9 nn1 c9)) := ⟨fun W q => (Ka.kept q (by omega)).lane.1⟩
          obtain ⟨⟨r0, r1⟩, f0, f1⟩ := z1.lane
          obtain ⟨⟨r2, r3⟩, f2, f3⟩ := z2.lane
          refine .tq 0 117 R0 ?_ (hy := fun w hSw => by have s := X0.out w hSw; go_simp; rfl); simp only [oqA, oqB, oqC]
          refine .tq 1 118 R0 ?_ (hy := fun w hSw => by have s := X1.out w hSw; go_simp; rfl); simp only [oqA, oqB, oqC]
          refine AnyG.ready (rs := [2]) (by kernel_rfl) (by simp) ?_
          refine AllG.cons rfl (fun K hK => ?_) AllG.nil
          go_simp
          refine hK.out _ _ ⟨u1.mono (fun _ _ e => .inl e), fun _ => trivial⟩ ?_
          clear hK K
          refine AnyG.ready (rs := [3]) (by kernel_rfl) (by simp) ?_
          refine AllG.cons rfl (fun K hK => ?_) AllG.nil
          go_simp
          refine hK.out _ _ ⟨u2, fun _ => trivial⟩ ?_
          clear hK K
          refine AnyG.done (by kernel_rfl) ?_ _
          have PZ : Hd _ := ⟨Pz⟩
          clear Pz u1 u2 z1 z2 r0 r1 r2 r3 f0 f1 f2 f3 X0 X1 R0 K7 Ka Ha NE DR P6 HB HW
          generalize World.setCell _ _ _ = wz at *
          go_upto_region 25 with fail
          obtain ⟨a3, c3, k3, r3⟩ := PZ.out.l3
          obtain ⟨a4, c4, k4, r4⟩ := PZ.out.l4
          have DR : Below wz.heap.size wz wz.drew := (Below.refl _ _).drew
          have M3 : Blk wz.drew g3 25 (lnA s (.slice a3 Lz.length c3)) := k3
          have M4 : Blk wz.drew (g3 + 1) 25 (lnA s (.slice a4 Lz.length c4)) := k4
          have R3 := r3.carry DR
          have R4 := r4.carry DR
          have PD : Hd (PL w wz.drew w.heap.size g3 (g3 + 1) s Lz) := ⟨PZ.out.carry DR⟩
          obtain ⟨nz, hnz⟩ : ∃ nz, nz = Lz.length := ⟨_, rfl⟩
          have EZ : Hd (Lz.length = nz) := ⟨hnz.symm⟩
          rw [← hnz] at M3 M4
          clear hnz k3 k4 r3 r4 DR PZ
          refine AnyG.start (T := fun W => Below wz.drew.heap.size wz.drew W) (U := fun _ => True) (j0 := 100) (by kernel_rfl) ?_
          generalize wz.drew = w0 at *
          have S0 : Hd (∀ W, Below w0.heap.size w0 W → (SlR W a3 c3 Lz ∧ SlR W a4 c4 Lz) ∧ PL w W w.heap.size g3 (g3 + 1) s Lz) := ⟨fun W q => ⟨⟨R3.carry q, R4.carry q⟩, PD.out.carry q⟩⟩
          have X3 : Hd (∀ W, Below w0.heap.size w0 W → W.cell? ⟨g3, 0, none⟩ = some (.int .u64 s) ∧ W.cell? ⟨g3, 1, none⟩ = some (.slice a3 nz c3)) := ⟨fun W q => (Blk.carry M3 q).lane.1⟩
          have X4 : Hd (∀ W, Below w0.heap.size w0 W → W.cell? ⟨g3 + 1, 0, none⟩ = some (.int .u64 s) ∧ W.cell? ⟨g3 + 1, 1, none⟩ = some (.slice a4 nz c4)) := ⟨fun W q => (Blk.carry M4 q).lane.1⟩
          have hz : Hd (Lz.length ≤ 2000) := ⟨by have := HZ.out.2; omega⟩
          have R0 := Below.refl w0.heap.size w0
          clear M3 M4 R3 R4 PD
          refine .tq 0 119 R0 ?_ (hy := fun w hSw => by have s := X3.out w hSw; go_simp; rfl); simp only [oqA, oqB, oqC]
          refine .tq 1 120 R0 ?_ (hy := fun w hSw => by have s := X4.out w hSw; go_simp; rfl); simp only [oqA, oqB, oqC]
          have T := (SH.out w0 s a3 a4 nz c3 c4 Lz hz.out EZ.out (S0.out w0 R0).1.1 (S0.out w0 R0).1.2).1
          refine AnyG.ready (rs := [2]) (by kernel_rfl) (by simp) ?_
          refine AllG.cons rfl (fun K hK => ?_) AllG.nil
          go_simp
          refine T.mono ?_
          rintro e w1 ⟨rfl, b1⟩
          have R1 := R0.trans (b1.mono R0.size)
          refine hK.out _ _ ⟨R1, fun _ => trivial⟩ ?_
          clear hK K T
          refine .tq 3 122 R1 ?_; simp only [oqA, oqB, oqC]
          refine .tq 4 123 R1 ?_; simp only [oqA, oqB, oqC]
          refine .tq 5 124 R1 ?_ (hy := fun w hSw => by have s := X3.out w hSw; go_simp; rfl); simp only [oqA, oqB, oqC]
          refine .tq 7 126 R1 ?_ (hy := fun w hSw => by have s := X4.out w hSw; go_simp; rfl); simp only [oqA, oqB, oqC]
          have T := (SH.out w1 s a3 a4 nz c3 c4 Lz hz.out EZ.out (S0.out w1 R1).1.1 (S0.out w1 R1).1.2).2.1
          refine AnyG.ready (rs := [6]) (by kernel_rfl) (by simp) ?_
          refine AllG.cons rfl (fun K hK => ?_) AllG.nil
          go_simp
          refine T.mono ?_
          rintro e w2 ⟨rfl, b2⟩
          have R2 := R1.trans (b2.mono R1.size)
          refine hK.out _ _ ⟨R2, fun _ => trivial⟩ ?_
          clear hK K T
          have T := (SH.out w2 s a3 a4 nz c3 c4 Lz hz.out EZ.out (S0.out w2 R2).1.1 (S0.out w2 R2).1.2).2.2.1
          refine AnyG.ready (rs := [8]) (by kernel_rfl) (by simp) ?_
          refine AllG.cons rfl (fun K hK => ?_) AllG.nil
          go_simp
          refine T.mono ?_
          rintro e w3 ⟨rfl, b3⟩
          have R3 := R2.trans (b3.mono R2.size)
          refine hK.out _ _ ⟨R3, fun _ => trivial⟩ ?_
          clear hK K T
          refine .tq (v := .bool false) 9 128 R3 ?_ (hy := fun w hSw => by go_simp; first | done | simp); simp only [oqA, oqB, oqC]
          refine .tq 10 129 R3 ?_; simp only [oqA, oqB, oqC]
          refine AnyG.done (by kernel_rfl) ?_ _
          have Q : Hd _ := ⟨(S0.out w3 R3).2⟩
          clear S0 X3 X4 R0 R1 R2 R3 b1 b2 b3
          go_wp2_with fail
          go_roundw
          case rel => exact ⟨k + 1, by omega, by omega, by go_num, s, Lz, HZ.out.1, HZ.out.2, Q.out⟩
          case measure => simp [intOf]; omega
        · have HZ : Hd (Word s ∧ L.length ≤ k + 1) := ⟨HW.out.1, by have := HW.out.2.2; omega⟩
          have PD : PL w w6.drew w.heap.size g3 (g3 + 1) s L := P6.out.carry (Below.refl _ _).drew
          have OD : Blk w6.drew ob 42 (opA ⟨dd, rr, ⟨t0, t1, t2, t3, t4⟩, nn⟩) := HB.out
          obtain ⟨a3, c3, k3, r3⟩ := PD.l3
          obtain ⟨a4, c4, k4, r4⟩ := PD.l4
          have JL : Hd (∀ W, (SlR W a3 c3 L → Calls Try.prog 20 #[.agg #[.int .u64 s, .slice a3 L.length c3], .int .i64 nn] W fun e w' => ∃ v, e = .returned v ∧ OwnT w' W.heap.size v (lateTo nn L L.length) ∧ Below W.heap.size W w') ∧ (SlR W a4 c4 L → Calls Try.prog 21 #[.agg #[.int .u64 s, .slice a4 L.length c4], .int .i64 nn] W fun e w' => ∃ v, e = .returned v ∧ OwnT w' W.heap.size v (lateTo nn L L.length) ∧ Below W.heap.size W w')) := ⟨fun W => ⟨fun q => late_ok s a3 c3 L nn W q.2.2 (by have := HW.out.2.2; omega), fun q => rlate_ok s a4 c4 L nn W q.2.2 (by have := HW.out.2.2; omega)⟩⟩
          have HT : Hd ((lateTo nn L L.length).length ≤ 2000) := ⟨Nat.le_trans (lateTo_len _ _ _) (by have := HW.out.2.2; omega)⟩
          obtain ⟨nz, hnz⟩ : ∃ nz, nz = L.length := ⟨_, rfl⟩
          rw [← hnz] at k3 k4 JL HT
          clear hnz
          generalize lateTo nn L nz = D at *
          go_upto_region 9 with fail
          clear y0 y1 y2 y3 y4 y5 y6 y7
          refine AnyG.start (T := fun W => Below w6.drew.heap.size w6.drew W) (U := fun _ => True) (j0 := 100) (by kernel_rfl) ?_
          generalize w6.drew = w0 at *
          have S0 : Hd (∀ W, Below w0.heap.size w0 W → (SlR W a3 c3 L ∧ SlR W a4 c4 L) ∧ PL w W w.heap.size g3 (g3 + 1) s L) := ⟨fun W q => ⟨⟨r3.carry q, r4.carry q⟩, PD.carry q⟩⟩
          have X3 : Hd (∀ W, Below w0.heap.size w0 W → W.cell? ⟨g3, 0, none⟩ = some (.int .u64 s) ∧ W.cell? ⟨g3, 1, none⟩ = some (.slice a3 nz c3)) := ⟨fun W q => (Blk.carry k3 q).lane.1⟩
          have X4 : Hd (∀ W, Below w0.heap.size w0 W → W.cell? ⟨g3 + 1, 0, none⟩ = some (.int .u64 s) ∧ W.cell? ⟨g3 + 1, 1, none⟩ = some (.slice a4 nz c4)) := ⟨fun W q => (Blk.carry k4 q).lane.1⟩
          have X7 : Hd (∀ W, Below w0.heap.size w0 W → W.cell? ⟨ob, 7, none⟩ = some (.int .i64 nn)) := ⟨fun W q => (Blk.carry OD q).eight.2.2.2.2.2.2.2⟩
          have R0 := Below.refl w0.heap.size w0
          clear k3 k4 r3 r4 OD PD
          refine .tq 0 39 R0 ?_ (hy := fun w hSw => by have s := X3.out w hSw; go_simp; rfl); simp only [oqA, oqB, oqC]
          refine .tq 1 40 R0 ?_; simp only [oqA, oqB, oqC]
          refine .tq 2 41 R0 ?_ (hy := fun w hSw => by have s := X7.out w hSw; go_simp; rfl); simp only [oqA, oqB, oqC]
          refine .tq 4 43 R0 ?_ (hy := fun w hSw => by have s := X4.out w hSw; go_simp; rfl); simp only [oqA, oqB, oqC]
          refine .tq 5 44 R0 ?_; simp only [oqA, oqB, oqC]
          refine .tq 6 45 R0 ?_ (hy := fun w hSw => by have s := X7.out w hSw; go_simp; rfl); simp only [oqA, oqB, oqC]
          have T := (JL.out w0).1 (S0.out w0 R0).1.1
          refine AnyG.ready (rs := [3]) (by kernel_rfl) (by simp) ?_
          refine AllG.cons rfl (fun K hK => ?_) AllG.nil
          go_simp
          refine T.mono ?_
          rintro e w1 ⟨v1, rfl, o1, b1⟩
          have R1 := R0.trans (b1.mono R0.size)
          refine hK.out _ _ ⟨R1, fun _ => trivial⟩ ?_
          clear hK K T
          obtain ⟨a1, c1, rfl, l1⟩ := o1.read
          clear o1
          have T := (JL.out w1).2 (S0.out w1 R1).1.2
          refine AnyG.ready (rs := [7]) (by kernel_rfl) (by simp) ?_
          refine AllG.cons rfl (fun K hK => ?_) AllG.nil
          go_simp
          refine T.mono ?_
          rintro e w2 ⟨v2, rfl, o2, b2⟩
          have R2 := R1.trans (b2.mono R1.size)
          refine hK.out _ _ ⟨R2, fun _ => trivial⟩ ?_
          clear hK K T
          obtain ⟨a2, c2, rfl, l2⟩ := o2.read
          clear o2
          have T := (SH.out w2 0 a1 a2 D.length c1 c2 D HT.out rfl (l1.carry b2) l2).2.2.2
          refine AnyG.ready (rs := [8]) (by kernel_rfl) (by simp) ?_
          refine AllG.cons rfl (fun K hK => ?_) AllG.nil
          go_simp
          refine T.mono ?_
          rintro e w3 ⟨rfl, b3⟩
          have R3 := R2.trans (b3.mono R2.size)
          refine hK.out _ _ ⟨R3, fun _ => trivial⟩ ?_
          clear hK K T l1 l2
          refine .tq 9 48 R3 ?_; simp only [oqA, oqB, oqC]
          refine AnyG.done (by kernel_rfl) ?_ _
          have PZ : Hd _ := ⟨(S0.out w3 R3).2⟩
          clear S0 X3 X4 X7 R0 R1 R2 R3 b1 b2 b3 P6 HB HW JL HT
          obtain ⟨wz, hwz⟩ : ∃ wz, wz = w3 := ⟨_, rfl⟩
          rw [← hwz] at PZ ⊢
          clear hwz
          go_upto_region 25 with fail
          obtain ⟨a3, c3, k3, r3⟩ := PZ.out.l3
          obtain ⟨a4, c4, k4, r4⟩ := PZ.out.l4
          have DR : Below wz.heap.size wz wz.drew := (Below.refl _ _).drew
          have M3 : Blk wz.drew g3 25 (lnA s (.slice a3 L.length c3)) := k3
          have M4 : Blk wz.drew (g3 + 1) 25 (lnA s (.slice a4 L.length c4)) := k4
          have R3 := r3.carry DR
          have R4 := r4.carry DR
          have PD : Hd (PL w wz.drew w.heap.size g3 (g3 + 1) s L) := ⟨PZ.out.carry DR⟩
          obtain ⟨nz, hnz⟩ : ∃ nz, nz = L.length := ⟨_, rfl⟩
          have EZ : Hd (L.length = nz) := ⟨hnz.symm⟩
          rw [← hnz] at M3 M4
          clear hnz k3 k4 r3 r4 DR PZ
          refine AnyG.start (T := fun W => Below wz.drew.heap.size wz.drew W) (U := fun _ => True) (j0 := 100) (by kernel_rfl) ?_
          generalize wz.drew = w0 at *
          have S0 : Hd (∀ W, Below w0.heap.size w0 W → (SlR W a3 c3 L ∧ SlR W a4 c4 L) ∧ PL w W w.heap.size g3 (g3 + 1) s L) := ⟨fun W q => ⟨⟨R3.carry q, R4.carry q⟩, PD.out.carry q⟩⟩
          have X3 : Hd (∀ W, Below w0.heap.size w0 W → W.cell? ⟨g3, 0, none⟩ = some (.int .u64 s) ∧ W.cell? ⟨g3, 1, none⟩ = some (.slice a3 nz c3)) := ⟨fun W q => (Blk.carry M3 q).lane.1⟩
          have X4 : Hd (∀ W, Below w0.heap.size w0 W → W.cell? ⟨g3 + 1, 0, none⟩ = some (.int .u64 s) ∧ W.cell? ⟨g3 + 1, 1, none⟩ = some (.slice a4 nz c4)) := ⟨fun W q => (Blk.carry M4 q).lane.1⟩
          have hz : Hd (L.length ≤ 2000) := ⟨by have := HZ.out.2; omega⟩
          have R0 := Below.refl w0.heap.size w0
          clear M3 M4 R3 R4 PD
          refine .tq 0 119 R0 ?_ (hy := fun w hSw => by have s := X3.out w hSw; go_simp; rfl); simp only [oqA, oqB, oqC]
          refine .tq 1 120 R0 ?_ (hy := fun w hSw => by have s := X4.out w hSw; go_simp; rfl); simp only [oqA, oqB, oqC]
          have T := (SH.out w0 s a3 a4 nz c3 c4 L hz.out EZ.out (S0.out w0 R0).1.1 (S0.out w0 R0).1.2).1
          refine AnyG.ready (rs := [2]) (by kernel_rfl) (by simp) ?_
          refine AllG.cons rfl (fun K hK => ?_) AllG.nil
          go_simp
          refine T.mono ?_
          rintro e w1 ⟨rfl, b1⟩
          have R1 := R0.trans (b1.mono R0.size)
          refine hK.out _ _ ⟨R1, fun _ => trivial⟩ ?_
          clear hK K T
          refine .tq 3 122 R1 ?_; simp only [oqA, oqB, oqC]
          refine .tq 4 123 R1 ?_; simp only [oqA, oqB, oqC]
          refine .tq 5 124 R1 ?_ (hy := fun w hSw => by have s := X3.out w hSw; go_simp; rfl); simp only [oqA, oqB, oqC]
          refine .tq 7 126 R1 ?_ (hy := fun w hSw => by have s := X4.out w hSw; go_simp; rfl); simp only [oqA, oqB, oqC]
          have T := (SH.out w1 s a3 a4 nz c3 c4 L hz.out EZ.out (S0.out w1 R1).1.1 (S0.out w1 R1).1.2).2.1
          refine AnyG.ready (rs := [6]) (by kernel_rfl) (by simp) ?_
          refine AllG.cons rfl (fun K hK => ?_) AllG.nil
          go_simp
          refine T.mono ?_
          rintro e w2 ⟨rfl, b2⟩
          have R2 := R1.trans (b2.mono R1.size)
          refine hK.out _ _ ⟨R2, fun _ => trivial⟩ ?_
          clear hK K T
          have T := (SH.out w2 s a3 a4 nz c3 c4 L hz.out EZ.out (S0.out w2 R2).1.1 (S0.out w2 R2).1.2).2.2.1
          refine AnyG.ready (rs := [8]) (by kernel_rfl) (by simp) ?_
          refine AllG.cons rfl (fun K hK => ?_) AllG.nil
          go_simp
          refine T.mono ?_
          rintro e w3 ⟨rfl, b3⟩
          have R3 := R2.trans (b3.mono R2.size)
          refine hK.out _ _ ⟨R3, fun _ => trivial⟩ ?_
          clear hK K T
          refine .tq (v := .bool false) 9 128 R3 ?_ (hy := fun w hSw => by go_simp; first | done | simp); simp only [oqA, oqB, oqC]
          refine .tq 10 129 R3 ?_; simp only [oqA, oqB, oqC]
          refine AnyG.done (by kernel_rfl) ?_ _
          have Q : Hd _ := ⟨(S0.out w3 R3).2⟩
          clear S0 X3 X4 R0 R1 R2 R3 b1 b2 b3
          go_wp2_with fail
          go_roundw
          case rel => exact ⟨k + 1, by omega, by omega, by go_num, s, L, HZ.out.1, HZ.out.2, Q.out⟩
          case measure => simp [intOf]; omega
      · obtain rfl : k = 200 := by omega
        have i1 : ((200 : Nat) : Int) < (n : Int) := by omega
        have Q : Hd _ := ⟨x.bel⟩
        clear x
        go_wp2_with fail
        go_ret
        exact ⟨rfl, Q.out⟩
    · obtain rfl : k = n := by omega
      have Q : Hd _ := ⟨x.bel⟩
      clear x
      go_wp2_with fail
      go_ret
      exact ⟨rfl, Q.out⟩
end Go.Proofs.Ytbnjjckcnlfapaa
