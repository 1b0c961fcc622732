/-
  What 'smooths' and 'ends' of borrow answer. Conditions: the lists lie in memory, and are short.
-/
import Derived.Test.YtcombbkhdnipkaaDs
namespace Go.Proofs.Ytcombbkhdnipkaa
open Go.RowKit

set_option maxHeartbeats 1000000 in
theorem smooths_ok (a : Option Addr) (n cap : Nat) (d : Nat → Dm) (w : World) (hr : DmR w a n d) (hn : n ≤ 64) :
    Calls Try.prog 15 #[.slice a n cap] w fun e w' => ∃ b, e = .returned (.slice (some ⟨b, 0, none⟩) n n) ∧ w.heap.size ≤ b ∧ Own w' b n (sms d) ∧ Below w.heap.size w w' := by
  obtain ⟨i0, hi, hz0, hz1, hz2⟩ := info_parts Try.info3
  have HR : Hd (DmR w a n d) := ⟨hr⟩
  clear hr
  go_enter Try.func15, Try.ntmps15
  go_wp2_with (at_make; refine wpList_make_full _ rfl (.tmp 7) (.tmp 7) 25 rfl w.heap.size 3 i0 (.int .i64 0) 1 Try.underlying25 hi hz0 hz1 _ _ _ _ n rfl rfl rfl rfl (by rw [hz2]; omega) (by unfold maxLen; omega) (Nat.le_refl _) ?_; intro w1 hown1 hgrow1; have hs1 := hgrow1.size)
  have o1 := Own.made hown1
  have b1 : Below w.heap.size w w1 := (Below.refl _ _).grown hgrow1 (Nat.le_refl _) (by simp)
  clear hown1 hgrow1
  go_loopw [11] (fun i wr => ∃ k : Nat, k ≤ n ∧ i = .int .i64 k ∧ Own wr w.heap.size n (upto (sms d) k) ∧ Below w.heap.size w wr) (fun i _ => n - (intOf i).toNat)
  case atStart => exact ⟨0, Nat.zero_le _, rfl, o1, b1⟩
  case round =>
    clear o1 b1 hs1
    obtain ⟨k, hk, rfl, p1, p2⟩ := hrel
    by_cases hlt : k < n
    · obtain ⟨sb, off, rfl, hsb, hc⟩ := (HR.out.carry p2) (by omega)
      obtain ⟨c0, c1⟩ := hc k hlt
      have hs : Hd (sms d k = (d k).smo) := ⟨rfl⟩
      clear hc
      generalize d k = y at *
      obtain ⟨x0, x1⟩ := y
      simp only at c0 c1 hs
      obtain ⟨w2, hw2⟩ : ∃ w2, w2 = wr.alloc (.cells #[.int .i64 x0, .int .i64 x1] 37) := ⟨_, rfl⟩
      have NW : Blk w2 wr.heap.size 37 #[.int .i64 x0, .int .i64 x1] := by rw [hw2]; exact Blk.new _ _ _
      have BW : Below wr.heap.size wr w2 := by rw [hw2]; exact alloc_below _ _
      have P2 : Hd (Below w.heap.size w w2) := ⟨p2.trans (BW.mono p2.size)⟩
      have P1 : Own w2 w.heap.size n (upto (sms d) k) := p1.carry BW
      have e2 := NW.cellv (v := .int .i64 x1) 1 rfl
      clear NW p1 p2 BW
      go_upto_region 5 with fail
      rw [← hw2]
      clear hw2 c0 c1 hsb
      generalize wr.heap.size = g at *
      obtain ⟨d1, f1⟩ := P1.2 k hlt
      have r1 := P1.store k x1 hlt
      rw [← hs.out, upto_succ, hs.out] at r1
      have r2 := P2.out.setCell (p := ⟨w.heap.size, k, none⟩) (Nat.le_refl _) (.int .i64 x1)
      have R : Hd (_ ∧ _) := ⟨r1, r2⟩
      clear r1 r2 P1 P2 hs
      go_wp2
      go_roundw
      case rel => exact ⟨k + 1, by omega, by go_num, R.out⟩
      case measure => simp [intOf]; omega
    · obtain rfl : k = n := by omega
      have q1 : Own wr w.heap.size k (sms d) := p1.congr fun j hj => by simp [upto, hj]
      clear p1
      go_wp2
      go_ret
      exact ⟨_, rfl, Nat.le_refl _, q1, p2⟩
end Go.Proofs.Ytcombbkhdnipkaa
