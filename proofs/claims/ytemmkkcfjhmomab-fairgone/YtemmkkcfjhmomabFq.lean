/-
  Somebody joins a lane of a hand, by the program and by the reference. Conditions: the lanes and the hand lie in memory, and are few.
-/
import Derived.Test.YtemmkkcfjhmomabFo
import Derived.Test.YtemmkkcfjhmomabFn
import Derived.Test.YtemmkkcfjhmomabJn
import Derived.Test.YtemmkkcfjhmomabFh
namespace Go.Proofs.Ytemmkkcfjhmomab
open Go.RowKit


set_option maxRecDepth 20000 in
set_option maxHeartbeats 2000000 in
theorem fjoin_yes (r g nn o : Int) (a : Option Addr) (c : Nat) (F : List Ln) (ah : Option Addr) (nh ch : Nat) (H0 : Nat → Int) (t : Tk) (w : World) (h : LsR w a c F) (hf : Few F) (hh : HnR w ah nh H0) (hnh : nh ≤ 1000) (k : Nat) (hk : k < F.length) (hc : chF F o H0 nh = k) (hfull : ((gl F k).L.length : Int) < nn) :
    Calls Try.prog 13 #[.agg #[.int .u64 r, .int .i64 g, .int .i64 nn, .int .i64 o, .slice a F.length c], .slice ah nh ch, .agg #[.int .i64 t.id, .int .i64 t.wid, .int .i64 t.sts, .int .i64 t.sin, .int .i64 t.unt]] w fun e w' => (∃ v, e = .returned (.tuple #[v, .int .i64 k, .int .i64 0]) ∧ FaS (fun j => j < w.heap.size) w' r g nn o (jnF F k r t) v) ∧ Below w.heap.size w w' := by
  obtain ⟨w2, hw2⟩ : ∃ w2, w2 = ((w.alloc (.cells #[.int .u64 r, .int .i64 g, .int .i64 nn, .int .i64 o, .slice a F.length c] 25)).alloc (.cells #[.int .i64 t.id, .int .i64 t.wid, .int .i64 t.sts, .int .i64 t.sin, .int .i64 t.unt] 30)).alloc (.cells #[.int .u64 0, .int .i64 0, .int .i64 0, .int .i64 0, .slice none 0 0] 25) := ⟨_, rfl⟩
  have BX := boxes3 w 25 30 25 #[.int .u64 r, .int .i64 g, .int .i64 nn, .int .i64 o, .slice a F.length c] #[.int .i64 t.id, .int .i64 t.wid, .int .i64 t.sts, .int .i64 t.sin, .int .i64 t.unt] #[.int .u64 0, .int .i64 0, .int .i64 0, .int .i64 0, .slice none 0 0]
  rw [← hw2] at BX
  obtain ⟨B, N1, N2, N3⟩ := BX
  have HF : Hd (Few F) := ⟨hf⟩
  have HW : Hd (LsR w a c F) := ⟨h⟩
  have hlen := hf.len
  have CHO := choose_ok r g nn o a c F ah nh ch H0 w2 (h.carry B) hf (hh.carry B) hnh
  rw [hc] at CHO
  obtain ⟨n, hn⟩ : ∃ n, F.length = n := ⟨_, rfl⟩
  have HL : Hd (F.length = n) := ⟨hn⟩
  have HN : Hd (LsR w2 a c F ∧ Below w.heap.size w w2 ∧ Blk w2 w.heap.size 25 (faA r g nn o (.slice a n c)) ∧ Blk w2 (w.heap.size + 1) 30 (tkA t) ∧ Blk w2 (w.heap.size + 1 + 1) 25 (faA 0 0 0 0 (.slice none 0 0))) := ⟨h.carry B, B, by rw [← hn]; exact N1, N2, N3⟩
  have hs := N3.lt
  obtain ⟨⟨x0, x1, x2, x3, x4⟩, -⟩ := Blk.fair N1
  rw [hn] at hlen hw2 x4 CHO ⊢
  clear hn B N1 N2 N3 h hf hh hnh
  obtain ⟨tt, htt⟩ : ∃ tt, tt = t := ⟨_, rfl⟩
  have HTT : Hd (tt = t) := ⟨htt⟩
  rw [← htt] at hw2 HN ⊢
  clear htt
  obtain ⟨t0, t1, t2, t3, t4⟩ := tt
  simp only [tkA] at hw2 HN ⊢
  go_enter Try.func13, Try.ntmps13
  go_upto_region 1 with fail
  rw [← hw2]
  clear hw2
  obtain ⟨A, hA⟩ : ∃ A, A = w.heap.size := ⟨_, rfl⟩
  have HA : Hd (A = w.heap.size) := ⟨hA⟩
  rw [← hA] at HN hs x0 x1 x2 x3 x4 ⊢
  clear hA
  go_wp2_with fail
  go_at_call 23
  refine CHO.mono ?_
  rintro e w3 ⟨rfl, b3⟩
  clear CHO x0 x1 x2 x3 x4
  have hs3 := b3.size
  have H3 : Hd (LsR w3 a c F ∧ Below A w w3 ∧ Blk w3 A 25 (faA r g nn o (.slice a n c)) ∧ Blk w3 (A + 1) 30 #[.int .i64 t0, .int .i64 t1, .int .i64 t2, .int .i64 t3, .int .i64 t4] ∧ Blk w3 (A + 1 + 1) 25 (faA 0 0 0 0 (.slice none 0 0))) :=
    ⟨HN.out.1.carry b3, HN.out.2.1.trans (b3.mono (show A ≤ w2.heap.size by omega)), HN.out.2.2.1.kept (Kept.of_below b3 (fun _ => False)) id, HN.out.2.2.2.1.kept (Kept.of_below b3 (fun _ => False)) id, HN.out.2.2.2.2.kept (Kept.of_below b3 (fun _ => False)) id⟩
  clear HN b3
  have hk0 : (0 : Int) ≤ (k : Int) := by omega
  have hkn : k < n := by have := HL.out; omega
  obtain ⟨b1, o1, a1, c1, rfl, hb1, d0, d1, s1⟩ := H3.out.1.at (k := k) hk
  have hbA : b1 < A := by
    obtain ⟨b', o', a', c', e', hb', -⟩ := HW.out.at hk
    injection e' with e'
    injection e' with e1 e2
    rw [HA.out, e1]
    exact hb'
  have B4 : Below w3.heap.size w3 w3.drew := (Below.refl _ _).drew
  have K4 : Kept (fun _ => False) w3 w3.drew := Kept.of_below B4 _
  have e0 := (World.cell?_of_block (K4.block b1 hb1 id)).trans d0
  have e1 := (World.cell?_of_block (K4.block b1 hb1 id)).trans d1
  have H4 : Hd (LsR w3.drew (some ⟨b1, o1, none⟩) c F ∧ Below A w w3.drew ∧ Blk w3.drew A 25 (faA r g nn o (.slice (some ⟨b1, o1, none⟩) n c)) ∧ Blk w3.drew (A + 1) 30 #[.int .i64 t0, .int .i64 t1, .int .i64 t2, .int .i64 t3, .int .i64 t4] ∧ Blk w3.drew (A + 1 + 1) 25 (faA 0 0 0 0 (.slice none 0 0)) ∧ SlR w3.drew a1 c1 (gl F k).L ∧ b1 < w3.drew.heap.size) :=
    ⟨H3.out.1.carry B4, H3.out.2.1.drew, H3.out.2.2.1.kept K4 id, H3.out.2.2.2.1.kept K4 id, H3.out.2.2.2.2.kept K4 id, s1.carry B4, Nat.lt_of_lt_of_le hb1 B4.size⟩
  have hs4 : w3.heap.size ≤ w3.drew.heap.size := B4.size
  obtain ⟨⟨x0, x1, x2, x3, x4⟩, -⟩ := H4.out.2.2.1.fair
  have HK := HF.out.at k
  clear H3 B4 K4 d0 d1 s1 hb1
  go_upto_region 4 with fail
  refine region_tail 9 (by kernel_rfl) ?_
  simp only [List.take_succ_cons, List.take_zero, List.drop_succ_cons, List.drop_zero]
  generalize w3.drew = w4 at *
  obtain ⟨m, hm⟩ : ∃ m, m = (gl F k).L.length := ⟨_, rfl⟩
  have HM : Hd (m = (gl F k).L.length) := ⟨hm⟩
  rw [← hm] at hfull HK e1
  obtain ⟨z, hz⟩ : ∃ z, z = (gl F k).s := ⟨_, rfl⟩
  have HZ : Hd (z = (gl F k).s) := ⟨hz⟩
  rw [← hz] at e0 HK
  clear hm hz
  repeat still_step
  refine wpStill_nil ?_
  have HY : Hd (∀ Y, Kept (fun j => j = A + 1 + 1) w4.drew Y → (Y.cell? ⟨A, 0, none⟩ = some (.int .u64 r) ∧ Y.cell? ⟨A, 1, none⟩ = some (.int .i64 g) ∧ Y.cell? ⟨A, 2, none⟩ = some (.int .i64 nn) ∧ Y.cell? ⟨A, 3, none⟩ = some (.int .i64 o) ∧ Y.cell? ⟨A, 4, none⟩ = some (.slice (some ⟨b1, o1, none⟩) n c)) ∧ (Y.cell? ⟨A + 1, 0, none⟩ = some (.int .i64 t0) ∧ Y.cell? ⟨A + 1, 1, none⟩ = some (.int .i64 t1) ∧ Y.cell? ⟨A + 1, 2, none⟩ = some (.int .i64 t2) ∧ Y.cell? ⟨A + 1, 3, none⟩ = some (.int .i64 t3) ∧ Y.cell? ⟨A + 1, 4, none⟩ = some (.int .i64 t4)) ∧ Y.cell? ⟨b1, o1 + k * 2, none⟩ = some (.int .u64 z) ∧ Y.cell? ⟨b1, o1 + k * 2 + 1, none⟩ = some (.slice a1 m c1)) := ⟨fun Y q => by
    have K4 : Kept (fun j => j = A + 1 + 1) w4 Y := (Kept.refl _ w4).drew.trans q
    have NT : Blk Y (A + 1) 30 (tkA ⟨t0, t1, t2, t3, t4⟩) := H4.out.2.2.2.1.kept K4 (by omega)
    exact ⟨(H4.out.2.2.1.kept K4 (by omega)).fair.1, NT.five.1, (World.cell?_of_block (K4.block b1 H4.out.2.2.2.2.2.2 (by omega))).trans e0, (World.cell?_of_block (K4.block b1 H4.out.2.2.2.2.2.2 (by omega))).trans e1⟩⟩
  have HG : Hd (∀ Y, Below w4.drew.heap.size w4.drew Y → LsR Y (some ⟨b1, o1, none⟩) c F ∧ Below A w Y ∧ Blk Y (A + 1 + 1) 25 (faA 0 0 0 0 (.slice none 0 0)) ∧ SlR Y a1 c1 (gl F k).L ∧ w3.heap.size ≤ Y.heap.size) := ⟨fun Y q => by
    have B4 : Below w4.heap.size w4 Y := (Below.refl _ _).drew.trans q
    exact ⟨H4.out.1.carry B4, H4.out.2.1.trans (B4.mono (by omega)), H4.out.2.2.2.2.1.kept (Kept.of_below B4 (fun _ => False)) id, H4.out.2.2.2.2.2.1.carry B4, Nat.le_trans hs4 B4.size⟩⟩
  clear x0 x1 x2 x3 x4 e0 e1 H4
  go_upto_region 6 with fail
  refine AnyG.start (T := fun Y => Kept (fun j => j = A + 1 + 1) w4.drew Y) (U := fun _ => True) (j0 := 100) (by kernel_rfl) ?_
  generalize w4.drew = w5 at *
  have R : Kept (fun j => j = A + 1 + 1) w5 w5 := Kept.refl _ _
  have R0 : Below w5.heap.size w5 w5 := Below.refl _ _
  refine .tq 0 27 R ?_ (hy := fun w hSw => by have s := (HY.out w hSw).1; go_simp; rfl); simp only [oqA, oqB, oqC]
  refine .tq 1 28 R ?_; simp only [oqA, oqB, oqC]
  refine .tq 2 29 R ?_; simp only [oqA, oqB, oqC]
  refine .tq 3 30 R ?_ (hy := fun w hSw => by have s := (HY.out w hSw).1; go_simp; rfl); simp only [oqA, oqB, oqC]
  refine .tq 4 31 R ?_; simp only [oqA, oqB, oqC]
  refine .tq 5 32 R ?_; simp only [oqA, oqB, oqC]
  refine .tq 6 33 R ?_ (hy := fun w hSw => by have s := (HY.out w hSw).2.2; go_simp; rfl); simp only [oqA, oqB, oqC]
  refine .tq 7 34 R ?_; simp only [oqA, oqB, oqC]
  refine .tq 8 35 R ?_ (hy := fun w hSw => by have s := (HY.out w hSw).1; go_simp; rfl); simp only [oqA, oqB, oqC]
  refine .tq 9 36 R ?_ (hy := fun w hSw => by have s := (HY.out w hSw).2.1; go_simp; rfl); simp only [oqA, oqB, oqC]
  refine .tq 12 39 R ?_; simp only [oqA, oqB, oqC]
  have JN := join_ok z r a1 c1 (gl F k).L ⟨t0, t1, t2, t3, t4⟩ w5 (HG.out w5 R0).2.2.2.1 (by have := HM.out; omega)
  rw [← HM.out] at JN
  refine AnyG.ready (rs := [10]) (by kernel_rfl) (by simp) ?_
  refine AllG.cons rfl (fun K hK => ?_) AllG.nil
  go_simp
  refine JN.mono ?_
  rintro e w6 ⟨⟨v6, rfl, a6, c6, rfl, -, o6⟩, b6⟩
  obtain ⟨L6, hL6⟩ : ∃ L6, L6 = (gl F k).L ++ [(⟨t0, t1, t2, t3, t4⟩ : Tk)] := ⟨_, rfl⟩
  have HL6 : Hd (L6 = (gl F k).L ++ [(⟨t0, t1, t2, t3, t4⟩ : Tk)]) := ⟨hL6⟩
  rw [← hL6] at o6 ⊢
  clear hL6
  obtain ⟨zj, hzj⟩ : ∃ zj, zj = jnS z r (gl F k).L := ⟨_, rfl⟩
  have HZJ : Hd (zj = jnS z r (gl F k).L) := ⟨hzj⟩
  rw [← hzj]
  clear hzj
  have WT := with_ok r g nn o (some ⟨b1, o1, none⟩) c k F zj a6 c6 L6 w5.heap.size w6 (HG.out w6 b6).1 HF.out (by rw [HL.out]; exact hkn) o6 b6.size
  rw [HL.out] at WT
  generalize L6.length = m6 at *
  refine hK.out _ _ ⟨Kept.of_below b6 _, fun _ => trivial⟩ ?_
  clear hK K JN
  refine AnyG.ready (rs := [11]) (by kernel_rfl) (by simp) ?_
  refine AllG.cons rfl (fun K hK => ?_) AllG.nil
  go_simp
  refine WT.mono ?_
  rintro e w7 ⟨⟨v7, rfl, u7, rfl, o7⟩, b7⟩
  have b57 : Below w5.heap.size w5 w7 := b6.trans (b7.mono b6.size)
  refine hK.out _ _ ⟨Kept.of_below b57 _, fun _ => trivial⟩ ?_
  clear hK K WT o6 b6 b7
  obtain ⟨a7, c7, e7, -⟩ := o7.read
  rw [List.length_set, HL.out] at e7
  subst e7
  obtain ⟨-, BW, NR, -, hs7⟩ := HG.out w7 b57
  have hs5 : w3.heap.size ≤ w5.heap.size := (HG.out w5 R0).2.2.2.2
  obtain ⟨q2, k2⟩ := fair_set NR r g nn o (.slice a7 n c7)
  obtain ⟨⟨y0, y1, y2, y3, y4⟩, yf0, yf1, yf2, yf3, yf4⟩ := NR.fair
  have b59 := k2.below (B := A) (by have := NR.lt; omega) (fun j e => by omega)
  have HJ : Hd (F.set k ⟨zj, L6⟩ = jnF F k r t) := ⟨by rw [HZJ.out, HL6.out, HZ.out, HTT.out]; rfl⟩
  have HE : Hd (_ ∧ _ ∧ _) := ⟨q2, o7.kept k2 (fun j hj e => by omega), BW.trans b59⟩
  refine AnyG.ready (rs := [13]) (by kernel_rfl) (by simp) ?_
  refine AllG.cons rfl (fun K hK => ?_) AllG.nil
  go_simp
  refine hK.out _ _ ⟨(Kept.of_below b57 _).trans k2, fun _ => trivial⟩ ?_
  clear hK K
  have R9 := (Kept.of_below b57 (fun j => j = A + 1 + 1)).trans k2
  refine .tq 14 7 R9 ?_; simp only [oqA, oqB, oqC]
  refine .tq 15 8 R9 ?_; simp only [oqA, oqB, oqC]
  refine AnyG.done (by kernel_rfl) ?_ _
  clear R R0 R9 b57 BW NR b59 q2 k2 o7 HY HG
  go_wp2_with fail
  refine bodyPost_ret (resFj19 _ _ _ (.int .i64 k) (.int .i64 0) rfl rfl rfl HE.out.1) rfl ?_
  obtain ⟨a9, c9, e9, r9⟩ := HE.out.2.1.st (S := fun j => j < w.heap.size) (fun j hj e => by have : j < w.heap.size := e; have := HA.out; omega)
  rw [List.length_set, HL.out] at e9
  obtain ⟨rfl, rfl⟩ : a7 = a9 ∧ c7 = c9 := by injection e9 with x1 x2 x3; exact ⟨x1, x3⟩
  rw [HJ.out, ← HTT.out] at r9
  exact ⟨⟨_, rfl, _, _, by unfold jnF; rw [List.length_set, HL.out], r9⟩, by rw [← HA.out]; exact HE.out.2.2⟩
end Go.Proofs.Ytemmkkcfjhmomab
