/-
  Lanes that are copied by the program. Conditions: the lanes lie in memory, and are few.
-/
import Derived.Test.YtemmkkcfjhmomabFc
namespace Go.Proofs.Ytemmkkcfjhmomab
open Go.RowKit

theorem resFa40 (tmps : Array Value) (w : World) (b : Nat) {r g n o : Int} {a : Option Addr} {l c : Nat} (ht : tmps[2]?.getD undef = .pointer (some ⟨b, 0, none⟩)) (h : Blk w b 25 (faA r g n o (.slice a l c))) :
    (results Try.f17 tmps).run Try.prog w = .ok (.agg #[.int .u64 r, .int .i64 g, .int .i64 n, .int .i64 o, .slice a l c]) w := by
  obtain ⟨⟨c0, c1, c2, c3, c4⟩, -⟩ := h.fair
  simp [results, Try.results17, go_sem, ht, c0, c1, c2, c3, c4]

set_option maxRecDepth 20000 in
set_option maxHeartbeats 1000000 in
theorem fcopied_ok (r g nn o : Int) (a : Option Addr) (c : Nat) (F : List Ln) (w : World) (h : LsR w a c F) (hf : Few F) :
    Calls Try.prog 17 #[.agg #[.int .u64 r, .int .i64 g, .int .i64 nn, .int .i64 o, .slice a F.length c]] w fun e w' => (∃ v, e = .returned v ∧ FaO w' w.heap.size r g nn o F v) ∧ Below w.heap.size w w' := by
  obtain ⟨i0, hi, hz0, hz1, hz2⟩ := info_parts Try.info38
  obtain ⟨w2, hw2⟩ : ∃ w2, w2 = (w.alloc (.cells #[.int .u64 r, .int .i64 g, .int .i64 nn, .int .i64 o, .slice a F.length c] 25)).alloc (.cells #[.int .u64 0, .int .i64 0, .int .i64 0, .int .i64 0, .slice none 0 0] 25) := ⟨_, rfl⟩
  have BX := boxes w 25 25 #[.int .u64 r, .int .i64 g, .int .i64 nn, .int .i64 o, .slice a F.length c] #[.int .u64 0, .int .i64 0, .int .i64 0, .int .i64 0, .slice none 0 0]
  rw [← hw2] at BX
  obtain ⟨B, N1, N2⟩ := BX
  have HF : Hd (Few F) := ⟨hf⟩
  have hl := hf.len
  obtain ⟨⟨x0, x1, x2, x3, x4⟩, -⟩ := Blk.fair N1
  obtain ⟨n, hn⟩ : ∃ n, F.length = n := ⟨_, rfl⟩
  have HL : Hd (F.length = n) := ⟨hn⟩
  have HN : Hd (LsR w2 a c F ∧ Below w.heap.size w w2 ∧ Blk w2 w.heap.size 25 (faA r g nn o (.slice a n c)) ∧ Blk w2 (w.heap.size + 1) 25 (faA 0 0 0 0 (.slice none 0 0))) := ⟨h.carry B, B, by rw [← hn]; exact N1, N2⟩
  rw [hn] at hl hw2 x4 ⊢
  clear hn N1 N2 B h hf x0 x1 x2 x3
  go_enter Try.func17, Try.ntmps17
  go_upto_region 1 with fail
  rw [← hw2]
  clear hw2
  have hs2 : w.heap.size ≤ w2.heap.size := HN.out.2.1.size
  go_upto_region 2 with (at_make; refine wpList_make_full _ rfl (.tmp 8) (.tmp 8) 23 rfl w.heap.size 38 i0 (.agg #[.int .u64 0, .slice none 0 0]) 2 Try.underlying23 hi hz0 hz1 _ _ _ _ n rfl rfl rfl rfl (by rw [hz2]; omega) (by unfold maxLen; omega) hs2 ?_; intro w3 hown3 hgrow3; have hs3 := hgrow3.size)
  have C3 : CpI w3 w3 w2.heap.size n 0 F := CpI.start hown3
  have B23 : Below w2.heap.size w2 w3 := (Below.refl _ _).grown hgrow3 (Nat.le_refl _) (by simp)
  have H3 : Hd (LsR w3 a c F ∧ Below w.heap.size w w3 ∧ Blk w3 w.heap.size 25 (faA r g nn o (.slice a n c)) ∧ Blk w3 (w.heap.size + 1) 25 (faA 0 0 0 0 (.slice none 0 0)) ∧ w.heap.size + 2 ≤ w2.heap.size) :=
    ⟨HN.out.1.carry B23, HN.out.2.1.trans (B23.mono HN.out.2.1.size), HN.out.2.2.1.kept (Kept.of_below B23 (fun _ => False)) id, HN.out.2.2.2.kept (Kept.of_below B23 (fun _ => False)) id, by have := HN.out.2.2.2.lt; omega⟩
  obtain ⟨⟨-, -, -, -, x4⟩, -⟩ := Blk.fair H3.out.2.2.1
  have HB : Hd (LsR w2 a c F ∧ Below w2.heap.size w2 w3) := ⟨HN.out.1, B23⟩
  clear hown3 hgrow3 B23 HN hs2
  obtain ⟨q, hq⟩ : ∃ q, q = w2.heap.size := ⟨_, rfl⟩
  have HQ : Hd (q = w2.heap.size) := ⟨hq⟩
  rw [← hq] at C3 H3 hs3 ⊢
  clear hq hi hz0 hz1 hz2
  obtain ⟨A, hA⟩ : ∃ A, A = w.heap.size := ⟨_, rfl⟩
  have HA : Hd (A = w.heap.size) := ⟨hA⟩
  rw [← hA] at x4 H3 ⊢
  clear hA
  go_upto_region 3 with fail
  clear x4
  go_loopw [13] (fun i wr => ∃ k : Nat, k ≤ n ∧ i = .int .i64 k ∧ CpI w3 wr q n k F) (fun i _ => n - (intOf i).toNat)
  case atStart => exact ⟨0, Nat.zero_le _, rfl, C3⟩
  case round =>
    clear C3
    obtain ⟨k, hk, rfl, CI⟩ := hrel
    obtain ⟨Z, -, -, hZb, hK⟩ := id CI
    have NA : Blk wr A 25 (faA r g nn o (.slice a n c)) := H3.out.2.2.1.kept hK (by have := H3.out.2.2.2.2; omega)
    have NR : Blk wr (A + 1) 25 (faA 0 0 0 0 (.slice none 0 0)) := H3.out.2.2.2.1.kept hK (by have := H3.out.2.2.2.2; omega)
    have hql := hZb.lt
    have hs3' : q ≤ w3.heap.size := hs3
    by_cases hlt : k < n
    · have SR : LsR wr a c F := HB.out.1.carry (HB.out.2.trans (hK.below (by rw [← HQ.out]; exact hs3') (fun k e => by rw [← HQ.out]; omega)))
      obtain ⟨b1, o1, a1, c1, rfl, hb1, d0, d1, s1⟩ := SR.at (k := k) (by rw [HL.out]; exact hlt)
      obtain ⟨wa, hwa⟩ : ∃ wa, wa = wr.alloc (.cells #[.int .u64 (gl F k).s, .slice a1 (gl F k).L.length c1] 38) := ⟨_, rfl⟩
      have BA : Below wr.heap.size wr wa := by rw [hwa]; exact alloc_below _ _
      have M1 : Blk wa.drew wr.heap.size 38 (lnA (gl F k).s (.slice a1 (gl F k).L.length c1)) := by rw [hwa]; exact Blk.new wr 38 _
      have CL := clone_ok a1 c1 (gl F k).L wa.drew ((s1.carry BA).carry (Below.refl _ _).drew) (by have := (HF.out.at k).2; omega)
      have HC : Hd (CpI w3 wr q n k F ∧ Below wr.heap.size wr wa.drew ∧ q < wr.heap.size) := ⟨CI, BA.drew, hql⟩
      have NX : Hd (∀ w5 v5, OwnT w5 wa.drew.heap.size v5 (gl F k).L → Below wa.drew.heap.size wa.drew w5 → (w5.cell? ⟨q, k * 2, none⟩ = some (.int .u64 0) ∧ w5.cell? ⟨q, k * 2 + 1, none⟩ = some (.slice none 0 0) ∧ w5.frozen? ⟨q, k * 2, none⟩ = false ∧ w5.frozen? ⟨q, k * 2 + 1, none⟩ = false ∧ q < w5.heap.size) ∧ CpI w3 ((w5.setCell ⟨q, k * 2, none⟩ (.int .u64 (gl F k).s)).setCell ⟨q, k * 2 + 1, none⟩ v5) q n (k + 1) F) := ⟨fun w5 v5 o5 b5 =>
        HC.out.1.next hlt HL.out.symm (HC.out.2.1.trans (b5.mono HC.out.2.1.size)) (o5.low (by have := HC.out.2.2; have := HC.out.2.1.size; omega))⟩
      clear CI SR s1 BA hZb hK NA NR
      generalize (gl F k).L.length = m at *
      generalize (gl F k).s = s at *
      go_upto_region 5 with fail
      rw [← hwa]
      clear hwa d0 d1
      obtain ⟨y, hy⟩ : ∃ y, y = wr.heap.size := ⟨_, rfl⟩
      have HY : Hd (q < y) := ⟨by rw [hy]; exact HC.out.2.2⟩
      rw [← hy] at M1 ⊢
      clear hy
      refine AnyG.start (T := fun W => Blk W y 38 (lnA s (.slice a1 m c1))) (U := fun _ => True) (j0 := 100) (by kernel_rfl) ?_
      generalize wa.drew = w4 at *
      have X0 : Hd (∀ W, Blk W y 38 (lnA s (.slice a1 m c1)) → W.cell? ⟨y, 0, none⟩ = some (.int .u64 s)) := ⟨fun W q => q.cellv 0 rfl⟩
      have X1 : Hd (∀ W, Blk W y 38 (lnA s (.slice a1 m c1)) → W.cell? ⟨y, 1, none⟩ = some (.slice a1 m c1)) := ⟨fun W q => q.cellv 1 rfl⟩
      refine .tq 0 18 M1 ?_; simp only [oqA, oqB, oqC]
      refine .tq 1 19 M1 ?_; simp only [oqA, oqB, oqC]
      refine .tq 2 20 M1 ?_; simp only [oqA, oqB, oqC]
      refine .tq 3 21 M1 ?_ (hy := fun w hSw => by have s := X0.out w hSw; go_simp; rfl); simp only [oqA, oqB, oqC]
      refine .tq 4 22 M1 ?_; simp only [oqA, oqB, oqC]
      refine .tq 5 23 M1 ?_ (hy := fun w hSw => by have s := X1.out w hSw; go_simp; rfl); simp only [oqA, oqB, oqC]
      refine AnyG.ready (rs := [6]) (by kernel_rfl) (by simp) ?_
      refine AllG.cons rfl (fun K hK => ?_) AllG.nil
      go_simp
      refine CL.mono ?_
      rintro e w5 ⟨v5, rfl, o5, b5⟩
      have T3 : Blk w5 y 38 (lnA s (.slice a1 m c1)) := M1.kept (Kept.of_below b5 (fun _ => False)) id
      refine hK.out _ _ ⟨T3, fun _ => trivial⟩ ?_
      clear hK K CL
      obtain ⟨⟨r0, r1, f0, f1, hq5⟩, CN⟩ := NX.out w5 v5 o5 b5
      obtain ⟨a5, c5, rfl, -⟩ := o5.read
      refine AnyG.ready (rs := [7]) (by kernel_rfl) (by simp) ?_
      refine AllG.cons rfl (fun K hK => ?_) AllG.nil
      go_simp
      refine hK.out _ _ ⟨T3, fun _ => trivial⟩ ?_
      clear hK K
      refine AnyG.ready (rs := [8]) (by kernel_rfl) (by simp) ?_
      refine AllG.cons rfl (fun K hK => ?_) AllG.nil
      go_simp
      refine hK.out _ _ ⟨T3, fun _ => trivial⟩ ?_
      clear hK K
      refine AnyG.ready (rs := [9]) (by kernel_rfl) (by simp) ?_
      refine AllG.cons rfl (fun K hK => ?_) AllG.nil
      go_simp
      refine hK.out _ _ ⟨?_, fun _ => trivial⟩ ?_
      · exact (T3.other (by have := HY.out; intro e; simp at e; omega) _).other (by have := HY.out; intro e; simp at e; omega) _
      clear hK K
      refine AnyG.done (by kernel_rfl) ?_ _
      have HCN : Hd _ := ⟨CN⟩
      clear CN r0 r1 f0 f1 T3 o5 b5 X0 X1 M1
      go_wp2
      go_roundw
      case rel => exact ⟨k + 1, by omega, by go_num, HCN.out⟩
      case measure => simp [intOf]; omega
    · obtain rfl : k = n := by omega
      have hqa := H3.out.2.2.2.2
      have OL := CI.fin HL.out.symm (by unfold maxLen; omega) (Nat.le_refl q)
      obtain ⟨⟨x0, x1, x2, x3, x4⟩, xf0, xf1, xf2, xf3, xf4⟩ := NA.fair
      obtain ⟨q1, k1⟩ := fair_lanes NA (.slice (some ⟨q, 0, none⟩) k k)
      have NR' := NR.kept k1 (by omega)
      obtain ⟨q2, k2⟩ := fair_set NR' r g nn o (.slice (some ⟨q, 0, none⟩) k k)
      obtain ⟨⟨y0, y1, y2, y3, y4⟩, yf0, yf1, yf2, yf3, yf4⟩ := NR'.fair
      obtain ⟨⟨z0, z1, z2, z3, z4⟩, -⟩ := q1.fair
      have HE : Hd (_ ∧ _ ∧ _) := ⟨q2, (OL.kept k1 (fun j hj e => by have := H3.out.2.2.2.2; omega)).kept k2 (fun j hj e => by have := H3.out.2.2.2.2; omega), (H3.out.2.1.trans (hK.below (B := A) (by have := H3.out.2.2.2.2; omega) (fun k e => by have := H3.out.2.2.2.2; omega))).trans ((k1.below (B := A) (by omega) (fun k e => by omega)).trans (k2.below (B := A) (by have := k1.size; omega) (fun k e => by omega)))⟩
      clear OL NA NR NR' q1 q2 k1 k2 CI hK hZb
      go_wp2_with fail
      refine bodyPost_ret (resFa40 _ _ _ rfl HE.out.1) rfl ?_
      rw [← HA.out]
      exact ⟨⟨_, rfl, _, rfl, HE.out.2.1.low (by omega)⟩, HE.out.2.2⟩
end Go.Proofs.Ytemmkkcfjhmomab
