/-
  The walk of 'DemandFalls'. Conditions: numbers fit their type.
-/
import Derived.Test.YtdcloonphnjjpaaAw
namespace Go.Proofs.Ytdcloonphnjjpaa
open Go.RowKit

def intOf : Value → Int
  | .int _ n => n
  | _ => 0
/-- What holds behind k Turns. -/
structure Lp (w : World) (g : Nat) (n : Int) (k : Nat) (wr : World) : Prop where
  ex : ∃ a b, Blk wr g 23 (dmA a b) ∧ cnt a = cnt n ∧ (k = 0 → a = n) ∧ (0 < k → a = cnt n ∧ cnt b = b ∧ cnt n ≤ b) ∧ cnt b - cnt n ≤ gap k
  bel : Below w.heap.size w wr
theorem Lp.step {w wr w1 : World} {g k : Nat} {n a b : Int} (hg : w.heap.size ≤ g) (N : Blk wr g 23 (dmA a b)) (B : Below w.heap.size w wr) (ha : cnt a = cnt n) (hd : cnt b - cnt n ≤ gap k) (b1 : Below wr.heap.size wr w1) :
    Lp w g n (k + 1) ((w1.setCell ⟨g, 0, none⟩ (.int .i64 (cnt n))).setCell ⟨g, 1, none⟩ (.int .i64 (smo (cnt a) (cnt b)))) := by
  obtain ⟨q1, q2⟩ := dm_set (N.kept (Kept.of_below b1 (fun _ => False)) id) (cnt n) (smo (cnt a) (cnt b))
  have s1 : cnt n ≤ smo (cnt a) (cnt b) := by rw [← ha]; exact smo_lo
  have s2 : smo (cnt a) (cnt b) ≤ max (cnt a) (cnt b) := smo_hi
  have s3 := smo_falls (h := cnt n) hd (gap_nn k)
  have t1 := cnt_lo n
  have t2 := cnt_hi a
  have t3 := cnt_hi b
  have s4 : cnt (smo (cnt a) (cnt b)) = smo (cnt a) (cnt b) := cnt_of (by omega) (by omega)
  refine ⟨⟨_, _, q1, cnt_cnt n, fun h => absurd h (Nat.succ_ne_zero k), fun _ => ⟨rfl, s4, s1⟩, ?_⟩, B.trans ((b1.mono B.size).trans (q2.below (Nat.le_trans B.size b1.size) (fun j e => by rw [e]; exact hg)))⟩
  rw [s4, ha]
  exact s3

set_option maxRecDepth 20000 in
set_option maxHeartbeats 2000000 in
theorem falls_law (h s n : Int) (w : World) :
    Calls Try.prog 5 #[.agg #[.int .i64 h, .int .i64 s], .int .i64 n] w fun e w' => e = .returned (.bool true) ∧ Below w.heap.size w w' := by
  obtain ⟨w1, hw1⟩ : ∃ w1, w1 = w.alloc (.cells #[.int .i64 h, .int .i64 s] 23) := ⟨_, rfl⟩
  have B1 : Hd (Below w.heap.size w w1) := ⟨by rw [hw1]; exact alloc_below _ _⟩
  have N1 : Hd (Blk w1 w.heap.size 23 (dmA h s)) := ⟨by rw [hw1]; exact Blk.new _ _ _⟩
  have A := awake_ok w1
  obtain ⟨g, hg⟩ : ∃ g, w.heap.size = g := ⟨_, rfl⟩
  rw [hg] at N1
  have HG : Hd (w.heap.size = g) := ⟨hg⟩
  go_enter Try.func5, Try.ntmps5
  go_upto_region 1 with fail
  rw [← hw1]
  clear hw1 hg
  go_upto_region 3 with (go_at_call 6; refine A.mono ?_; rintro e w2 ⟨rfl, b2⟩)
  clear A
  have N2 := N1.out.kept (Kept.of_below b2 (fun _ => False)) id
  have B2 : Below w.heap.size w w2 := B1.out.trans (b2.mono B1.out.size)
  clear b2 N1 B1
  obtain ⟨⟨c0, c1⟩, f0, f1⟩ := N2.two
  have L0 : Lp w g n 0 (w2.setCell ⟨g, 0, none⟩ (.int .i64 n)) := ⟨⟨n, s, N2.set 0 _, rfl, fun _ => rfl, fun h => absurd h (Nat.lt_irrefl 0), by have := cnt_hi s; have := cnt_lo n; show _ ≤ (1048576 : Int); omega⟩, B2.setCell (p := ⟨g, 0, none⟩) (by rw [HG.out]; exact Nat.le_refl _) _⟩
  clear N2 B2
  go_upto_region 4 with fail
  clear c0 c1 f0 f1
  generalize World.setCell _ _ _ = w3 at *
  go_wp2_with fail
  go_loopw [5] (fun i wr => ∃ k : Nat, k ≤ 50 ∧ i = .int .i64 k ∧ Lp w g n k wr) (fun i _ => 50 - (intOf i).toNat)
  case atStart => exact ⟨0, Nat.zero_le _, rfl, L0⟩
  case round =>
    clear L0
    obtain ⟨k, hk, rfl, L⟩ := hrel
    obtain ⟨a, b, N, h1, h2, h3, h4⟩ := L.ex
    have HN : Hd (Blk wr g 23 (dmA a b)) := ⟨N⟩
    have HL : Hd (Below w.heap.size w wr) := ⟨L.bel⟩
    obtain ⟨⟨c0, c1⟩, f0, f1⟩ := N.two
    clear N L
    by_cases hlt : k < 50
    · have T := turn_ok a b n wr
      have H1 : Hd (cnt a = cnt n) := ⟨h1⟩
      have H4 : Hd (cnt b - cnt n ≤ gap k) := ⟨h4⟩
      clear h1 h2 h3 h4
      go_wp2_with fail
      go_at_call 9
      refine T.mono ?_
      rintro e w4 ⟨rfl, b4⟩
      have K := HN.out.kept (Kept.of_below b4 (fun _ => False)) id
      clear c0 c1 f0 f1
      obtain ⟨⟨c0, c1⟩, f0, f1⟩ := K.two
      have L := Lp.step (Nat.le_of_eq HG.out) HN.out HL.out H1.out H4.out b4
      clear K b4 HN HL T H1 H4
      generalize smo (cnt a) (cnt b) = u at *
      generalize cnt n = z at *
      go_wp2_with fail
      go_roundw
      case rel => exact ⟨k + 1, by omega, by go_num, L⟩
      case measure => simp [intOf]; omega
    · obtain rfl : k = 50 := by omega
      obtain ⟨h5, h6, h7⟩ := h3 (by decide)
      rw [gap_50] at h4
      obtain rfl : b = cnt n := by omega
      subst h5
      have e3 : min (max n 0) 1048576 = cnt n := rfl
      clear h1 h2 h3 h4 h6 h7 HN hlt hk
      generalize cnt n = z at *
      go_wp2_with fail
      go_ret
      exact ⟨rfl, HL.out⟩
end Go.Proofs.Ytdcloonphnjjpaa
