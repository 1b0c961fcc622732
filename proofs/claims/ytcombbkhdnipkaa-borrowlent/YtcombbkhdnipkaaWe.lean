/-
  What 'ends' of borrow answers. Conditions: the bounds lie in memory, and are few.
-/
import Derived.Test.YtcombbkhdnipkaaWs
namespace Go.Proofs.Ytcombbkhdnipkaa
open Go.RowKit

/-- Two rows of n numbers of the call's own. -/
structure Two (w : World) (n : Nat) (f g : Nat → Int) (s t : Value) (w' : World) : Prop where
  ex : ∃ b c, (s = .slice (some ⟨b, 0, none⟩) n n ∧ t = .slice (some ⟨c, 0, none⟩) n n) ∧ b ≠ c ∧ (w.heap.size ≤ b ∧ w.heap.size ≤ c) ∧ (Own w' b n f ∧ Own w' c n g) ∧ Below w.heap.size w w'

set_option maxRecDepth 20000 in
set_option maxHeartbeats 2000000 in
theorem ends_ok (a : Option Addr) (n cap : Nat) (G : Nat → Bd) (w : World) (hr : BdR w a n G) (hn : n ≤ 64) :
    Calls Try.prog 13 #[.slice a n cap] w fun e w' => ∃ b c, e = .returned (.tuple #[.slice (some ⟨b, 0, none⟩) n n, .slice (some ⟨c, 0, none⟩) n n]) ∧ (w.heap.size ≤ b ∧ w.heap.size ≤ c) ∧ (Own w' b n (mns G) ∧ Own w' c n (mxs G)) ∧ Below w.heap.size w w' := by
  obtain ⟨i0, hi, hz0, hz1, hz2⟩ := info_parts Try.info3
  have HR : Hd (BdR w a n G) := ⟨hr⟩
  clear hr
  go_enter Try.func13, Try.ntmps13
  go_upto_region 1 with fail
  go_cut [2, 3] from 6 to 11 (fun s2 s3 wx => Two w n (fun _ => 0) (fun _ => 0) s2 s3 wx)
  case first =>
    have B0 : Hd (Below w.heap.size w w.drew) := ⟨(Below.refl _ _).drew⟩
    refine AnyG.start (T := fun _ => True) (U := fun _ => True) (j0 := 100) (by kernel_rfl) ?_
    refine .tq 0 6 trivial ?_; simp only [tkA, tkB, tkC]
    refine .tq 1 7 trivial ?_ (hy := fun w hSw => by go_simp; rfl); simp only [tkA, tkB, tkC]
    refine .tq 3 9 trivial ?_; simp only [tkA, tkB, tkC]
    refine .tq 4 10 trivial ?_ (hy := fun w hSw => by go_simp; rfl); simp only [tkA, tkB, tkC]
    refine AnyG.ready (rs := [2, 5]) (by kernel_rfl) (by simp) ?_
    refine AllG.cons rfl (fun K hK => ?_) (AllG.cons rfl (fun K hK => ?_) AllG.nil)
    · refine step_make rfl (.tmp 7) (.tmp 7) 25 rfl w.heap.size 3 i0 (.int .i64 0) 1 Try.underlying25 hi hz0 hz1 _ _ _ _ n rfl rfl rfl rfl (by rw [hz2]; omega) (by unfold maxLen; omega) (Nat.le_refl _) ?_; intro w1 hown1 hgrow1
      have o1 := Own.made hown1
      have b1 : Below w.heap.size w w1 := B0.out.grown hgrow1 (Nat.le_refl _) (by simp)
      have hs1 : w.heap.size ≤ w1.heap.size := b1.size
      refine hK.out _ _ ⟨trivial, fun _ => trivial⟩ ?_
      clear hK K hown1 hgrow1
      refine AnyG.putAt 8 rfl ?_; simp only [tkA, tkB, tkC]
      refine .tq 6 2 trivial ?_; simp only [tkA, tkB, tkC]
      refine AnyG.ready (rs := [5]) (by kernel_rfl) (by simp) ?_
      refine AllG.cons rfl (fun K hK => ?_) AllG.nil
      refine step_make rfl (.tmp 10) (.tmp 10) 25 rfl w.heap.size 3 i0 (.int .i64 0) 1 Try.underlying25 hi hz0 hz1 _ _ _ _ n rfl rfl rfl rfl (by rw [hz2]; omega) (by unfold maxLen; omega) hs1 ?_; intro w2 hown2 hgrow2
      have o2 := Own.made hown2
      have b2 : Below w.heap.size w w2 := b1.grown hgrow2 hs1 (by simp)
      have o1' : Own w2 w.heap.size n (fun _ => 0) := o1.carry ((Below.refl _ _).grown hgrow2 (Nat.le_refl _) (by simp))
      have hne : w.heap.size ≠ w1.heap.size := by have := o1.1; have h2 : w.drew.heap.size = w.heap.size := rfl; omega
      refine hK.out _ _ ⟨trivial, fun _ => trivial⟩ ?_
      clear hK K hown2 hgrow2 o1
      refine AnyG.putAt 11 rfl ?_; simp only [tkA, tkB, tkC]
      refine .tq 7 3 trivial ?_; simp only [tkA, tkB, tkC]
      refine AnyG.done (by kernel_rfl) ?_ _
      have HT : Hd (Two w n (fun _ => 0) (fun _ => 0) (.slice (some ⟨w.heap.size, 0, none⟩) n n) (.slice (some ⟨w1.heap.size, 0, none⟩) n n) w2) := ⟨⟨_, _, ⟨rfl, rfl⟩, hne, ⟨Nat.le_refl _, hs1⟩, ⟨o1', o2⟩, b2⟩⟩
      clear o1' o2 b1 b2 hs1 hne
      go_wp2_with fail
      go_meet
      exact HT.out
    · refine step_make rfl (.tmp 10) (.tmp 10) 25 rfl w.heap.size 3 i0 (.int .i64 0) 1 Try.underlying25 hi hz0 hz1 _ _ _ _ n rfl rfl rfl rfl (by rw [hz2]; omega) (by unfold maxLen; omega) (Nat.le_refl _) ?_; intro w1 hown1 hgrow1
      have o1 := Own.made hown1
      have b1 : Below w.heap.size w w1 := B0.out.grown hgrow1 (Nat.le_refl _) (by simp)
      have hs1 : w.heap.size ≤ w1.heap.size := b1.size
      refine hK.out _ _ ⟨trivial, fun _ => trivial⟩ ?_
      clear hK K hown1 hgrow1
      refine AnyG.putAt 11 rfl ?_; simp only [tkA, tkB, tkC]
      refine AnyG.ready (rs := [2]) (by kernel_rfl) (by simp) ?_
      refine AllG.cons rfl (fun K hK => ?_) AllG.nil
      refine step_make rfl (.tmp 7) (.tmp 7) 25 rfl w.heap.size 3 i0 (.int .i64 0) 1 Try.underlying25 hi hz0 hz1 _ _ _ _ n rfl rfl rfl rfl (by rw [hz2]; omega) (by unfold maxLen; omega) hs1 ?_; intro w2 hown2 hgrow2
      have o2 := Own.made hown2
      have b2 : Below w.heap.size w w2 := b1.grown hgrow2 hs1 (by simp)
      have o1' : Own w2 w.heap.size n (fun _ => 0) := o1.carry ((Below.refl _ _).grown hgrow2 (Nat.le_refl _) (by simp))
      have hne : w.heap.size ≠ w1.heap.size := by have := o1.1; have h2 : w.drew.heap.size = w.heap.size := rfl; omega
      refine hK.out _ _ ⟨trivial, fun _ => trivial⟩ ?_
      clear hK K hown2 hgrow2 o1
      refine AnyG.putAt 8 rfl ?_; simp only [tkA, tkB, tkC]
      refine .tq 6 2 trivial ?_; simp only [tkA, tkB, tkC]
      refine .tq 7 3 trivial ?_; simp only [tkA, tkB, tkC]
      refine AnyG.done (by kernel_rfl) ?_ _
      have HT : Hd (Two w n (fun _ => 0) (fun _ => 0) (.slice (some ⟨w1.heap.size, 0, none⟩) n n) (.slice (some ⟨w.heap.size, 0, none⟩) n n) w2) := ⟨⟨_, _, ⟨rfl, rfl⟩, hne.symm, ⟨hs1, Nat.le_refl _⟩, ⟨o2, o1'⟩, b2⟩⟩
      clear o1' o2 b1 b2 hs1 hne
      go_wp2_with fail
      go_meet
      exact HT.out
  case rest =>
    obtain ⟨b, c, ⟨rfl, rfl⟩, hne, ⟨hwb, hwc⟩, ⟨o1, o2⟩, b2⟩ := hcut.ex
    clear hcut
    go_wp2_with fail
    go_loopw [14] (fun i wr => ∃ k : Nat, k ≤ n ∧ i = .int .i64 k ∧ Own wr b n (upto (mns G) k) ∧ Own wr c n (upto (mxs G) k) ∧ Below w.heap.size w wr) (fun i _ => n - (intOf i).toNat)
    case atStart => exact ⟨0, Nat.zero_le _, rfl, o1, o2, b2⟩
    case round =>
      clear o1 o2 b2
      obtain ⟨k, hk, rfl, p1, p2, p3⟩ := hrel
      by_cases hlt : k < n
      · obtain ⟨sb, off, rfl, hsb, hc⟩ := (HR.out.carry p3) (by omega)
        obtain ⟨c0, c1, c2⟩ := hc k hlt
        have e1 : Hd (mns G k = (G k).mn) := ⟨rfl⟩
        have e2 : Hd (mxs G k = (G k).mx) := ⟨rfl⟩
        clear hc
        generalize G k = y at *
        obtain ⟨x0, x1, x2⟩ := y
        simp only at c0 c1 c2 e1 e2
        obtain ⟨w2, hw2⟩ : ∃ w2, w2 = wr.alloc (.cells #[.int .i64 x0, .int .i64 x1, .int .i64 x2] 39) := ⟨_, rfl⟩
        have NW : Blk w2 wr.heap.size 39 #[.int .i64 x0, .int .i64 x1, .int .i64 x2] := by rw [hw2]; exact Blk.new _ _ _
        have BW : Below wr.heap.size wr w2 := by rw [hw2]; exact alloc_below _ _
        have P3 : Hd (Below w.heap.size w w2) := ⟨p3.trans (BW.mono p3.size)⟩
        have P1 : Own w2 b n (upto (mns G) k) := p1.carry BW
        have P2 : Own w2 c n (upto (mxs G) k) := p2.carry BW
        have hgb : wr.heap.size ≠ b := by have := p1.1; omega
        have hgc : wr.heap.size ≠ c := by have := p2.1; omega
        clear p1 p2 p3 BW
        go_upto_region 5 with fail
        rw [← hw2]
        clear hw2 c0 c1 c2 hsb
        generalize wr.heap.size = g at *
        have hT : Blk w2.drew g 39 #[.int .i64 x0, .int .i64 x1, .int .i64 x2] := NW
        have Q1 : Own w2.drew b n (upto (mns G) k) := P1
        have Q2 : Own w2.drew c n (upto (mxs G) k) := P2
        have Q3 : Hd (Below w.heap.size w w2.drew) := ⟨P3.out.drew⟩
        clear NW P1 P2 P3
        obtain ⟨d1, f1⟩ := Q1.2 k hlt
        obtain ⟨d2, f2⟩ := Q2.2 k hlt
        have r1 := (Q1.store k x1 hlt).other (Ne.symm hne) k (.int .i64 x2)
        have r2 := (Q2.other hne k (.int .i64 x1)).store k x2 hlt
        rw [← e1.out, upto_succ, e1.out] at r1
        rw [← e2.out, upto_succ, e2.out] at r2
        have r3 := (Q3.out.setCell (p := ⟨b, k, none⟩) hwb (.int .i64 x1)).setCell (p := ⟨c, k, none⟩) hwc (.int .i64 x2)
        have R : Hd (_ ∧ _ ∧ _) := ⟨r1, r2, r3⟩
        have d2' : (w2.drew.setCell ⟨b, k, none⟩ (.int .i64 x1)).cell? ⟨c, k, none⟩ = some (.int .i64 (upto (mxs G) k k)) := ((Q2.other hne k (.int .i64 x1)).2 k hlt).1
        have f2' : (w2.drew.setCell ⟨b, k, none⟩ (.int .i64 x1)).frozen? ⟨c, k, none⟩ = false := ((Q2.other hne k (.int .i64 x1)).2 k hlt).2
        have K1 : Hd (∀ v, Blk (w2.drew.setCell ⟨b, k, none⟩ v) g 39 #[.int .i64 x0, .int .i64 x1, .int .i64 x2]) := ⟨fun v => hT.other hgb v⟩
        have K2 : Hd (∀ v u, Blk ((w2.drew.setCell ⟨b, k, none⟩ v).setCell ⟨c, k, none⟩ u) g 39 #[.int .i64 x0, .int .i64 x1, .int .i64 x2]) := ⟨fun v u => (hT.other hgb v).other hgc u⟩
        clear r1 r2 r3 Q1 Q2 Q3 e1 e2
        refine AnyG.start (T := fun W => Blk W g 39 #[.int .i64 x0, .int .i64 x1, .int .i64 x2]) (U := fun _ => True) (j0 := 100) (by kernel_rfl) ?_
        generalize w2.drew = wd at *
        refine .tq 0 19 hT ?_; simp only [tkA, tkB, tkC]
        refine .tq 1 20 hT ?_; simp only [tkA, tkB, tkC]
        refine .tq 2 21 hT ?_; simp only [tkA, tkB, tkC]
        refine .tq 3 22 hT ?_; simp only [tkA, tkB, tkC]
        refine .tq 4 23 hT ?_; simp only [tkA, tkB, tkC]
        refine .tq 5 24 hT ?_ (hy := fun w hSw => by have s1 := hSw.cellv (v := .int .i64 x1) 1 rfl; have s2 := hSw.cellv (v := .int .i64 x2) 2 rfl; go_simp; rfl); simp only [tkA, tkB, tkC]
        refine .tq 6 25 hT ?_; simp only [tkA, tkB, tkC]
        refine .tq 7 26 hT ?_ (hy := fun w hSw => by have s1 := hSw.cellv (v := .int .i64 x1) 1 rfl; have s2 := hSw.cellv (v := .int .i64 x2) 2 rfl; go_simp; rfl); simp only [tkA, tkB, tkC]
        refine .tq 8 27 hT ?_; simp only [tkA, tkB, tkC]
        refine AnyG.ready (rs := [9]) (by kernel_rfl) (by simp) ?_
        refine AllG.cons rfl (fun K hK => ?_) AllG.nil
        go_simp
        refine hK.out _ _ ⟨K1.out _, fun _ => trivial⟩ ?_
        have hT1 := K1.out (.int .i64 x1)
        clear hK K d1 f1 hT K1
        refine .tq 10 28 hT1 ?_; simp only [tkA, tkB, tkC]
        refine AnyG.ready (rs := [11]) (by kernel_rfl) (by simp) ?_
        refine AllG.cons rfl (fun K hK => ?_) AllG.nil
        go_simp
        refine hK.out _ _ ⟨K2.out _ _, fun _ => trivial⟩ ?_
        clear hK K d2 f2 d2' f2' hT1 K2
        refine AnyG.done (by kernel_rfl) ?_ _
        go_wp2_with fail
        go_roundw
        case rel => exact ⟨k + 1, by omega, by go_num, R.out⟩
        case measure => simp [intOf]; omega
      · obtain rfl : k = n := by omega
        have q1 : Own wr b k (mns G) := p1.congr fun j hj => by simp [upto, hj]
        have q2 : Own wr c k (mxs G) := p2.congr fun j hj => by simp [upto, hj]
        clear p1 p2
        go_wp2
        go_ret2
        exact ⟨_, _, rfl, ⟨hwb, hwc⟩, ⟨q1, q2⟩, p3⟩
end Go.Proofs.Ytcombbkhdnipkaa
