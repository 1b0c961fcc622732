/-
  Two lists, two lanes that are the same are found so; the seats of all who wait, of the program and of the reference. Conditions: the lanes lie in memory, and are short.
-/
import Derived.Test.YtemmkkcfjhmomabWd
namespace Go.Proofs.Ytemmkkcfjhmomab
open Go.RowKit

set_option maxRecDepth 20000 in
set_option maxHeartbeats 1000000 in
theorem same_ok (a b : Option Addr) (c1 c2 : Nat) (L : List Tk) (w : World) (h1 : TkR w a L) (h2 : TkR w b L) (hl : L.length ≤ 2000) :
    Calls Try.prog 30 #[.slice a L.length c1, .slice b L.length c2] w fun e w' => e = .returned (.bool true) ∧ Below w.heap.size w w' := by
  have H1 : Hd (TkR w a L) := ⟨h1⟩
  have H2 : Hd (TkR w b L) := ⟨h2⟩
  obtain ⟨n, hn⟩ : ∃ n, L.length = n := ⟨_, rfl⟩
  have HL : Hd (L.length = n) := ⟨hn⟩
  rw [hn] at hl ⊢
  clear h1 h2 hn
  go_enter Try.func30, Try.ntmps30
  go_wp2
  go_loopw [5] (fun i wr => ∃ k : Nat, k ≤ n ∧ i = .int .i64 k ∧ Below w.heap.size w wr) (fun i _ => n - (intOf i).toNat)
  case atStart => exact ⟨0, Nat.zero_le _, rfl, Below.refl _ _⟩
  case round =>
    obtain ⟨k, hk, rfl, p3⟩ := hrel
    by_cases hlt : k < n
    · obtain ⟨b1, o1, rfl, hb1, d0, d1, d2, d3, d4⟩ := (H1.out.carry p3).at (k := k) (by rw [HL.out]; exact hlt)
      obtain ⟨b2, o2, rfl, hb2, e0, e1, e2, e3, e4⟩ := (H2.out.carry p3).at (k := k) (by rw [HL.out]; exact hlt)
      clear hb1 hb2
      generalize gt L k = z at *
      obtain ⟨z0, z1, z2, z3, z4⟩ := z
      simp only at d0 d1 d2 d3 d4 e0 e1 e2 e3 e4
      have P : Hd (Below w.heap.size w wr) := ⟨p3⟩
      clear p3
      go_wp2
      go_quiet (fail)
      go_wp2
      go_roundw
      case rel => exact ⟨k + 1, by omega, by go_num, ⟨P.out.os, P.out.tape, P.out.output, P.out.size, P.out.block⟩⟩
      case measure => simp [intOf]; omega
    · obtain rfl : k = n := by omega
      go_wp2
      go_ret
      exact ⟨rfl, p3⟩

set_option maxRecDepth 20000 in
set_option maxHeartbeats 1000000 in
theorem samel_ok (s : Int) (a b : Option Addr) (c1 c2 : Nat) (L : List Tk) (w : World) (h1 : TkR w a L) (h2 : TkR w b L) (hl : L.length ≤ 2000) :
    Calls Try.prog 18 #[.agg #[.int .u64 s, .slice a L.length c1], .agg #[.int .u64 s, .slice b L.length c2]] w fun e w' => e = .returned (.bool true) ∧ Below w.heap.size w w' := by
  obtain ⟨w2, hw2⟩ : ∃ w2, w2 = (w.alloc (.cells #[.int .u64 s, .slice a L.length c1] 38)).alloc (.cells #[.int .u64 s, .slice b L.length c2] 38) := ⟨_, rfl⟩
  have BX := boxes w 38 38 #[.int .u64 s, .slice a L.length c1] #[.int .u64 s, .slice b L.length c2]
  rw [← hw2] at BX
  obtain ⟨B, N1, N2⟩ := BX
  obtain ⟨⟨x0, x1⟩, -⟩ := Blk.lane N1
  obtain ⟨⟨y0, y1⟩, -⟩ := Blk.lane N2
  have S := same_ok a b c1 c2 L w2 (h1.carry B) (h2.carry B) hl
  have HB : Hd (Below w.heap.size w w2) := ⟨B⟩
  clear N1 N2 B h1 h2
  generalize L.length = n at *
  go_enter Try.func18, Try.ntmps18
  go_upto_region 1 with fail
  rw [← hw2]
  clear hw2
  go_wp2_with (go_at_call 30; refine S.mono ?_; rintro e w4 ⟨rfl, b4⟩)
  go_ret
  exact ⟨rfl, HB.out.trans (b4.mono HB.out.size)⟩

/-- The seats of the first k who wait. -/
def seatsTo (L : List Tk) : Nat → Int
  | 0 => 0
  | k + 1 => seatsTo L k + clW (gt L k).wid
theorem seatsTo_lo (L : List Tk) : ∀ k, 0 ≤ seatsTo L k
  | 0 => Int.le_refl 0
  | k + 1 => by have := seatsTo_lo L k; have := clW_lo (gt L k).wid; simp only [seatsTo]; omega
theorem seatsTo_hi (L : List Tk) : ∀ k, seatsTo L k ≤ 16 * (k : Int)
  | 0 => Int.le_refl 0
  | k + 1 => by have := seatsTo_hi L k; have := clW_hi (gt L k).wid; simp only [seatsTo]; omega

set_option maxRecDepth 20000 in
set_option maxHeartbeats 1000000 in
theorem seats_ok (s : Int) (a : Option Addr) (c : Nat) (L : List Tk) (w : World) (h : TkR w a L) (hl : L.length ≤ 2000) :
    Calls Try.prog 21 #[.agg #[.int .u64 s, .slice a L.length c]] w fun e w' => e = .returned (.int .i64 (seatsTo L L.length)) ∧ Below w.heap.size w w' := by
  obtain ⟨w1, hw1⟩ : ∃ w1, w1 = w.alloc (.cells #[.int .u64 s, .slice a L.length c] 38) := ⟨_, rfl⟩
  have B : Below w.heap.size w w1 := by rw [hw1]; exact alloc_below _ _
  have N1 : Blk w1 w.heap.size 38 (lnA s (.slice a L.length c)) := by rw [hw1]; exact Blk.new _ _ _
  obtain ⟨⟨c0, c1⟩, -⟩ := N1.lane
  have H : Hd (TkR w1 a L ∧ Below w.heap.size w w1) := ⟨h.carry B, B⟩
  obtain ⟨n, hn⟩ : ∃ n, L.length = n := ⟨_, rfl⟩
  have HL : Hd (L.length = n) := ⟨hn⟩
  rw [hn] at hl c1 hw1 ⊢
  clear hn N1 B h
  go_enter Try.func21, Try.ntmps21
  go_upto_region 1 with fail
  rw [← hw1]
  clear hw1
  go_wp2
  clear c0 c1
  go_loopw [3, 9] (fun v i wr => ∃ k : Nat, k ≤ n ∧ v = .int .i64 (seatsTo L k) ∧ i = .int .i64 k ∧ Below w1.heap.size w1 wr) (fun _ i _ => n - (intOf i).toNat)
  case atStart => exact ⟨0, Nat.zero_le _, rfl, rfl, Below.refl _ _⟩
  case round =>
    obtain ⟨k, hk, rfl, rfl, p3⟩ := hrel
    by_cases hlt : k < n
    · obtain ⟨b1, o1, rfl, hb1, d0, d1, d2, d3, d4⟩ := (H.out.1.carry p3).at (k := k) (by rw [HL.out]; exact hlt)
      have l1 := seatsTo_lo L k
      have l2 := seatsTo_hi L k
      have l3 := clW_lo (gt L k).wid
      have l4 := clW_hi (gt L k).wid
      have HE : Hd (seatsTo L (k + 1) = seatsTo L k + clW (gt L k).wid) := ⟨rfl⟩
      have P : Hd (Below w1.heap.size w1 wr) := ⟨p3⟩
      have W : Hd (∀ W, Calls Try.prog 33 #[.agg #[.int .i64 (gt L k).id, .int .i64 (gt L k).wid, .int .i64 (gt L k).sts, .int .i64 (gt L k).sin, .int .i64 (gt L k).unt]] W fun e w' => e = .returned (.int .i64 (clW (gt L k).wid)) ∧ Below W.heap.size W w') := ⟨fun W => width_ok (gt L k) W⟩
      generalize clW (gt L k).wid = x at *
      generalize seatsTo L k = y at *
      generalize gt L k = z at *
      obtain ⟨z0, z1, z2, z3, z4⟩ := z
      simp only at d0 d1 d2 d3 d4 W
      clear p3
      go_wp2_with (go_at_call 33; refine (W.out _).mono ?_; rintro e w4 ⟨rfl, b4⟩)
      go_roundw
      case rel => exact ⟨k + 1, by omega, by rw [HE.out], by go_num, (P.out.alloc P.out.size _).trans (b4.mono (P.out.alloc P.out.size _).size)⟩
      case measure => simp [intOf]; omega
    · obtain rfl : k = n := by omega
      go_wp2
      go_ret
      exact ⟨rfl, H.out.2.trans (p3.mono H.out.2.size)⟩

end Go.Proofs.Ytemmkkcfjhmomab
