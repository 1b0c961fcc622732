/-
  The walk of 'BoundsHold'. Conditions: the levels lie in memory, and are no more than memory holds.
-/
import Derived.Test.YtkohofiobpniiaaMth
namespace Go.Proofs.Ytkohofiobpniiaa
open Go.RowKit

set_option maxRecDepth 20000 in
set_option maxHeartbeats 4000000 in
theorem hold_law (total : Int) (a : Option Addr) (n cap : Nat) (l : Nat → Lv) (w : World) (hr : LvR w a n l) (hn : n ≤ 17592186044416) :
    Calls Try.prog 4 #[.int .i64 total, .slice a n cap] w fun e w' => e = .returned (.bool true) ∧ Below w.heap.size w w' := by
  have I := awake_ok w
  have HR : Hd (∀ W, Below w.heap.size w W → Calls Try.prog 8 #[.int .i64 total, .slice a n cap] W fun e w' => BRes W total n l e w') := ⟨fun W b => bounds_ok total a n cap l W (hr.carry b) hn⟩
  clear hr
  go_enter Try.func4, Try.ntmps4
  go_wp2_with fail
  go_at_call 7
  refine I.mono ?_
  rintro e w1 ⟨rfl, b1⟩
  clear I
  have J := HR.out w1 b1
  clear HR
  go_wp2_with fail
  go_at_call 8
  refine J.mono ?_
  rintro e w2 hres
  clear J
  have B2 : Hd (Below w.heap.size w w2) := ⟨b1.trans (hres.bel.mono b1.size)⟩
  clear b1
  rcases hres.ex with ⟨hf, hi, ac, c, rfl, hb⟩ | ⟨-, -, rfl⟩ | ⟨hz, rfl⟩
  · have HF : Hd (Fits total n (shr l)) := ⟨hf⟩
    have HI : Hd (∀ k, k < n → InR (l k)) := ⟨hi⟩
    have hlen := hf.len
    have hpos := hf.pos
    have hlo := hf.lo
    have hhi := hf.hi
    clear hres hf hi
    obtain ⟨bb, off, rfl, hbl, hc⟩ := hb hpos
    have HC : Hd (∀ W, Below w2.heap.size w2 W → ∀ k, k < n → W.cell? ⟨bb, off + k * 3, none⟩ = some (.int .i64 (bds total n l k).nom) ∧ W.cell? ⟨bb, off + k * 3 + 1, none⟩ = some (.int .i64 (bds total n l k).mn) ∧ W.cell? ⟨bb, off + k * 3 + 2, none⟩ = some (.int .i64 (bds total n l k).mx)) := ⟨fun W b k hk => by
      obtain ⟨h0, h1, h2⟩ := hc k hk
      exact ⟨(b.cell (p := ⟨bb, off + k * 3, none⟩) hbl).trans h0, (b.cell (p := ⟨bb, off + k * 3 + 1, none⟩) hbl).trans h1, (b.cell (p := ⟨bb, off + k * 3 + 2, none⟩) hbl).trans h2⟩⟩
    clear hb hc hbl
    go_wp2_with fail
    go_loopw [7, 8, 9, 10] (fun s0 s1 s2 i wr => ∃ k : Nat, k ≤ n ∧ i = .int .i64 k ∧ s0 = .int .i64 (nomS total n l k) ∧ s1 = .int .i64 (mnS total n l k) ∧ s2 = .int .i64 (mxS total n l k) ∧ Below w2.heap.size w2 wr) (fun _ _ _ i _ => n - (intOf i).toNat)
    case atStart => exact ⟨0, Nat.zero_le _, rfl, rfl, rfl, rfl, Below.refl _ _⟩
    case round =>
      obtain ⟨k, hk, rfl, rfl, rfl, rfl, p3⟩ := hrel
      obtain ⟨⟨s1, s2⟩, ⟨s3, s4⟩, s5, s6⟩ := sums_fit HF.out HI.out hk
      by_cases hlt : k < n
      · obtain ⟨c0, c1, c2⟩ := HC.out wr p3 k hlt
        have o := bds_ord HF.out HI.out hlt
        have o2 := o.lo
        have o3 := o.le
        have o4 := o.up
        have o5 := o.hi
        have e1 : Hd (nomS total n l (k + 1) = nomS total n l k + (bds total n l k).nom) := ⟨rfl⟩
        have e2 : Hd (mnS total n l (k + 1) = mnS total n l k + (bds total n l k).mn) := ⟨rfl⟩
        have e3 : Hd (mxS total n l (k + 1) = mxS total n l k + (bds total n l k).mx) := ⟨rfl⟩
        clear o
        generalize bds total n l k = z at *
        obtain ⟨z0, z1, z2⟩ := z
        simp only at c0 c1 c2 o2 o3 o4 o5 e1 e2 e3
        generalize nomS total n l k = t0 at *
        generalize mnS total n l k = t1 at *
        generalize mxS total n l k = t2 at *
        have g1 : decide (z1 < 0) = false := decide_eq_false (by omega)
        have g2 : decide (z0 < z1) = false := decide_eq_false (by omega)
        have g3 : decide (z2 < z0) = false := decide_eq_false (by omega)
        have g4 : decide (total < z2) = false := decide_eq_false (by omega)
        have P : Hd (Below w2.heap.size w2 wr) := ⟨p3⟩
        clear p3
        go_wp2_with fail
        go_quiet (fail)
        go_wp2_with fail
        go_roundw
        case rel => exact ⟨k + 1, by omega, by go_num, by rw [e1.out], by rw [e2.out], by rw [e3.out], ⟨P.out.os, P.out.tape, P.out.output, P.out.size, P.out.block⟩⟩
        case measure => simp [intOf]; omega
      · obtain rfl : k = n := by omega
        have q1 := nomS_all (l := l) HF.out
        have q2 := mnS_all (l := l) HF.out HI.out
        have q3 := mxS_all (l := l) HF.out HI.out
        rw [q1]
        generalize mnS total k l k = t1 at *
        generalize mxS total k l k = t2 at *
        have P : Hd (Below w.heap.size w wr) := ⟨B2.out.trans (p3.mono B2.out.size)⟩
        clear p3 q1 s1 s2
        go_wp2_with fail
        go_ret
        exact ⟨rfl, P.out⟩
  · clear hres
    go_wp2_with fail
    go_ret
    exact ⟨rfl, B2.out⟩
  · have hz' : (refI total n (shr l) != 0) = true := by simpa using hz
    clear hres hz
    go_wp2_with fail
    go_ret
    exact ⟨rfl, B2.out⟩
end Go.Proofs.Ytkohofiobpniiaa
