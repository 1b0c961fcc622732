/-
  What 'shares' of bounds answers. Conditions: the levels lie in memory, and are no more than memory holds.
-/
import Derived.Test.YtcombbkhdnipkaaBas
import Derived.Test.YtcombbkhdnipkaaBWalkC
import Derived.Test.YtcombbkhdnipkaaBMathE
namespace Go.Proofs.Ytcombbkhdnipkaa.Bo
open Go.RowKit

set_option maxHeartbeats 1000000 in
theorem shares_ok (a : Option Addr) (n cap : Nat) (l : Nat → Lv) (w : World) (hr : LvR w a n l) (hn : n ≤ 17592186044416) :
    Calls Try.prog 18 #[.slice a n cap] w fun e w' => ∃ b, e = .returned (.slice (some ⟨b, 0, none⟩) n n) ∧ w.heap.size ≤ b ∧ Own w' b n (shr l) ∧ Below w.heap.size w w' := by
  obtain ⟨i0, hi, hz0, hz1, hz2⟩ := info_parts Try.info3
  have HR : Hd (LvR w a n l) := ⟨hr⟩
  clear hr
  go_enter Try.func18, Try.ntmps18
  go_wp2_with (at_make; refine wpList_make_full _ rfl (.tmp 7) (.tmp 7) 25 rfl w.heap.size 3 i0 (.int .i64 0) 1 Try.underlying25 hi hz0 hz1 _ _ _ _ n rfl rfl rfl rfl (by rw [hz2]; omega) (by unfold maxLen; omega) (Nat.le_refl _) ?_; intro w1 hown1 hgrow1; have hs1 := hgrow1.size)
  have o1 := Own.made hown1
  have b1 : Below w.heap.size w w1 := (Below.refl _ _).grown hgrow1 (Nat.le_refl _) (by simp)
  clear hown1 hgrow1
  go_loopw [11] (fun i wr => ∃ k : Nat, k ≤ n ∧ i = .int .i64 k ∧ Own wr w.heap.size n (upto (shr l) k) ∧ Below w.heap.size w wr) (fun i _ => n - (intOf i).toNat)
  case atStart => exact ⟨0, Nat.zero_le _, rfl, o1, b1⟩
  case round =>
    clear o1 b1 hs1
    obtain ⟨k, hk, rfl, p1, p2⟩ := hrel
    by_cases hlt : k < n
    · obtain ⟨sb, off, rfl, hsb, c0, c1, c2, c3, c4, c5, c6, c7, c8, c9⟩ := (HR.out.carry p2).at hlt
      have hs : Hd (shr l k = (l k).shares) := ⟨rfl⟩
      generalize l k = y at *
      obtain ⟨x0, x1, x2, x3, x4, x5, x6, x7, x8, x9⟩ := y
      simp only at c0 c1 c2 c3 c4 c5 c6 c7 c8 c9 hs
      obtain ⟨w2, hw2⟩ : ∃ w2, w2 = wr.alloc (.cells #[.string x0, .int .i64 x1, .int .i64 x2, .int .i64 x3, .int .i64 x4, .int .i64 x5, .int .i64 x6, .int .i64 x7, .int .i64 x8, .int .i64 x9] 41) := ⟨_, rfl⟩
      have N : Blk w2 wr.heap.size 41 #[.string x0, .int .i64 x1, .int .i64 x2, .int .i64 x3, .int .i64 x4, .int .i64 x5, .int .i64 x6, .int .i64 x7, .int .i64 x8, .int .i64 x9] := by rw [hw2]; exact Blk.new _ _ _
      have BW : Below wr.heap.size wr w2 := by rw [hw2]; exact alloc_below _ _
      have P2 : Hd (Below w.heap.size w w2) := ⟨p2.trans (BW.mono p2.size)⟩
      have P1 : Own w2 w.heap.size n (upto (shr l) k) := p1.carry BW
      have e2 := N.cellv (v := .int .i64 x2) 2 rfl
      clear N p1 p2 BW
      go_upto_region 5 with fail
      rw [← hw2]
      clear hw2 c0 c1 c2 c3 c4 c5 c6 c7 c8 c9 hsb
      generalize wr.heap.size = g at *
      obtain ⟨d1, f1⟩ := P1.2 k hlt
      have r1 := P1.store k x2 hlt
      rw [← hs.out, upto_succ, hs.out] at r1
      have r2 := P2.out.setCell (p := ⟨w.heap.size, k, none⟩) (Nat.le_refl _) (.int .i64 x2)
      have R : Hd (_ ∧ _) := ⟨r1, r2⟩
      clear r1 r2 P1 P2 hs
      go_wp2
      go_roundw
      case rel => exact ⟨k + 1, by omega, by go_num, R.out⟩
      case measure => simp [intOf]; omega
    · obtain rfl : k = n := by omega
      have q1 : Own wr w.heap.size k (shr l) := p1.congr fun j hj => by simp [upto, hj]
      clear p1
      go_wp2
      go_ret
      exact ⟨_, rfl, Nat.le_refl _, q1, p2⟩
end Go.Proofs.Ytcombbkhdnipkaa.Bo
