/-
  The walk of 'BoundsOrder'. Conditions: the levels lie in memory, and are no more than memory holds.
-/
import Derived.Test.YtkohofiobpniiaaMth
namespace Go.Proofs.Ytkohofiobpniiaa
open Go.RowKit

set_option maxRecDepth 20000 in
set_option maxHeartbeats 4000000 in
theorem order_law (total : Int) (a : Option Addr) (n cap : Nat) (l : Nat → Lv) (w : World) (hr : LvR w a n l) (hn : n ≤ 17592186044416) :
    Calls Try.prog 6 #[.int .i64 total, .slice a n cap] w fun e w' => e = .returned (.bool true) ∧ Below w.heap.size w w' := by
  have I := awake_ok w
  have HR : Hd (∀ W, Below w.heap.size w W → Calls Try.prog 8 #[.int .i64 total, .slice a n cap] W fun e w' => BRes W total n l e w') := ⟨fun W b => bounds_ok total a n cap l W (hr.carry b) hn⟩
  have HV : Hd (LvR w a n l) := ⟨hr⟩
  clear hr
  go_enter Try.func6, Try.ntmps6
  go_wp2_with fail
  go_at_call 7
  refine I.mono ?_
  rintro e w1 ⟨rfl, b1⟩
  clear I
  have J := HR.out w1 b1
  clear HR
  go_wp2_with fail
  go_at_call 8
  refine J.mono ?_
  rintro e w2 hres
  clear J
  have B2 : Hd (Below w.heap.size w w2) := ⟨b1.trans (hres.bel.mono b1.size)⟩
  clear b1
  rcases hres.ex with ⟨hf, hi, ac, c, rfl, hb⟩ | ⟨-, -, rfl⟩ | ⟨hz, rfl⟩
  · have HF : Hd (Fits total n (shr l)) := ⟨hf⟩
    have HI : Hd (∀ k, k < n → InR (l k)) := ⟨hi⟩
    have hlen := hf.len
    have hpos := hf.pos
    clear hres hf hi
    obtain ⟨bb, off, rfl, hbl, hc⟩ := hb hpos
    obtain ⟨lb, lof, rfl, -, -⟩ := HV.out hpos
    have HC : Hd (∀ W, Below w2.heap.size w2 W → ∀ k, k < n → (W.cell? ⟨bb, off + k * 3, none⟩ = some (.int .i64 (bds total n l k).nom) ∧ W.cell? ⟨bb, off + k * 3 + 1, none⟩ = some (.int .i64 (bds total n l k).mn) ∧ W.cell? ⟨bb, off + k * 3 + 2, none⟩ = some (.int .i64 (bds total n l k).mx)) ∧ W.cell? ⟨lb, lof + k * 10 + 2, none⟩ = some (.int .i64 (l k).shares) ∧ W.cell? ⟨lb, lof + k * 10 + 3, none⟩ = some (.int .i64 (l k).lend) ∧ W.cell? ⟨lb, lof + k * 10 + 4, none⟩ = some (.int .i64 (l k).borrow)) := ⟨fun W b k hk => by
      obtain ⟨h0, h1, h2⟩ := hc k hk
      obtain ⟨lb', lof', e', hlb, -, -, y2, y3, y4, -⟩ := HV.out.at hk
      injection e' with e'
      injection e' with e1 e2
      subst e1 e2
      have hlb2 := Nat.lt_of_lt_of_le hlb B2.out.size
      exact ⟨⟨(b.cell (p := ⟨bb, off + k * 3, none⟩) hbl).trans h0, (b.cell (p := ⟨bb, off + k * 3 + 1, none⟩) hbl).trans h1, (b.cell (p := ⟨bb, off + k * 3 + 2, none⟩) hbl).trans h2⟩, (b.cell (p := ⟨lb, lof + k * 10 + 2, none⟩) hlb2).trans ((B2.out.cell (p := ⟨lb, lof + k * 10 + 2, none⟩) hlb).trans y2), (b.cell (p := ⟨lb, lof + k * 10 + 3, none⟩) hlb2).trans ((B2.out.cell (p := ⟨lb, lof + k * 10 + 3, none⟩) hlb).trans y3), (b.cell (p := ⟨lb, lof + k * 10 + 4, none⟩) hlb2).trans ((B2.out.cell (p := ⟨lb, lof + k * 10 + 4, none⟩) hlb).trans y4)⟩⟩
    clear hb hc hbl HV
    go_wp2_with fail
    go_loopw [7] (fun i wr => ∃ k : Nat, k ≤ n ∧ i = .int .i64 k ∧ Below w2.heap.size w2 wr) (fun i _ => n - (intOf i).toNat)
    case atStart => exact ⟨0, Nat.zero_le _, rfl, Below.refl _ _⟩
    case round =>
      obtain ⟨i, hi, rfl, p3⟩ := hrel
      by_cases hlt : i < n
      · have P : Hd (Below w2.heap.size w2 wr) := ⟨p3⟩
        clear p3
        go_wp2_with fail
        go_loopw [8] (fun j wq => ∃ k : Nat, k ≤ n ∧ j = .int .i64 k ∧ Below w2.heap.size w2 wq) (fun j _ => n - (intOf j).toNat)
        case atStart => exact ⟨0, Nat.zero_le _, rfl, P.out⟩
        case round =>
          clear P
          obtain ⟨k, hk, rfl, q3⟩ := hrel
          have Q : Hd (Below w2.heap.size w2 wr) := ⟨q3⟩
          clear q3
          by_cases hkn : k < n
          · obtain ⟨⟨c0, c1, c2⟩, c3, c4, c5⟩ := HC.out wr Q.out i hlt
            obtain ⟨⟨d0, d1, d2⟩, d3, d4, d5⟩ := HC.out wr Q.out k hkn
            have M : Hd ((l k).shares < (l i).shares → (bds total n l k).nom ≤ (bds total n l i).nom ∧ ((l k).borrow = (l i).borrow → (bds total n l k).mx ≤ (bds total n l i).mx) ∧ ((l k).lend = (l i).lend → (bds total n l k).mn ≤ (bds total n l i).mn)) := ⟨fun h => bd_mono (HI.out k hkn) (HF.out.order i k hlt hkn h) (HF.out.part k hkn).1⟩
            generalize (l i).shares = a2 at *
            generalize (l i).lend = a3 at *
            generalize (l i).borrow = a4 at *
            generalize (l k).shares = b2 at *
            generalize (l k).lend = b3 at *
            generalize (l k).borrow = b4 at *
            generalize bds total n l i = x at *
            generalize bds total n l k = y at *
            obtain ⟨ao, an, am⟩ := x
            obtain ⟨bo, bn, bm⟩ := y
            simp only at c0 c1 c2 d0 d1 d2 M
            by_cases cs : a2 ≤ b2
            · have g0 : decide (a2 ≤ b2) = true := decide_eq_true cs
              clear cs M
              go_wp2_with fail
              go_quiet (fail)
              go_wp2_with fail
              go_roundw
              case rel => exact ⟨k + 1, by omega, by go_num, ⟨Q.out.os, Q.out.tape, Q.out.output, Q.out.size, Q.out.block⟩⟩
              case measure => simp [intOf]; omega
            have g0 : decide (a2 ≤ b2) = false := decide_eq_false cs
            obtain ⟨M1, m2, m3⟩ := M.out (by omega)
            have M2 : Hd (a4 = b4 → bm ≤ am) := ⟨fun e => m2 e.symm⟩
            have M3 : Hd (a3 = b3 → bn ≤ an) := ⟨fun e => m3 e.symm⟩
            have g1 : decide (ao < bo) = false := decide_eq_false (by omega)
            clear M cs m2 m3
            by_cases cb : a4 = b4 <;> by_cases cd : a3 = b3
            · have g2 : (a4 == b4) = true := by simpa using cb
              have g3 : decide (am < bm) = false := decide_eq_false (by have := M2.out cb; omega)
              have g4 : (a3 == b3) = true := by simpa using cd
              have g5 : decide (an < bn) = false := decide_eq_false (by have := M3.out cd; omega)
              clear cb cd M2 M3
              go_wp2_with fail
              go_quiet (fail)
              go_wp2_with fail
              go_quiet (fail)
              go_wp2_with fail
              go_roundw
              case rel => exact ⟨k + 1, by omega, by go_num, ⟨Q.out.os, Q.out.tape, Q.out.output, Q.out.size, Q.out.block⟩⟩
              case measure => simp [intOf]; omega
            · have g2 : (a4 == b4) = true := by simpa using cb
              have g3 : decide (am < bm) = false := decide_eq_false (by have := M2.out cb; omega)
              have g4 : (a3 == b3) = false := by simpa using cd
              clear cb cd M2 M3
              go_wp2_with fail
              go_quiet (fail)
              go_wp2_with fail
              go_quiet (fail)
              go_wp2_with fail
              go_roundw
              case rel => exact ⟨k + 1, by omega, by go_num, ⟨Q.out.os, Q.out.tape, Q.out.output, Q.out.size, Q.out.block⟩⟩
              case measure => simp [intOf]; omega
            · have g2 : (a4 == b4) = false := by simpa using cb
              have g4 : (a3 == b3) = true := by simpa using cd
              have g5 : decide (an < bn) = false := decide_eq_false (by have := M3.out cd; omega)
              clear cb cd M2 M3
              go_wp2_with fail
              go_quiet (fail)
              go_wp2_with fail
              go_quiet (fail)
              go_wp2_with fail
              go_roundw
              case rel => exact ⟨k + 1, by omega, by go_num, ⟨Q.out.os, Q.out.tape, Q.out.output, Q.out.size, Q.out.block⟩⟩
              case measure => simp [intOf]; omega
            · have g2 : (a4 == b4) = false := by simpa using cb
              have g4 : (a3 == b3) = false := by simpa using cd
              clear cb cd M2 M3
              go_wp2_with fail
              go_quiet (fail)
              go_wp2_with fail
              go_quiet (fail)
              go_wp2_with fail
              go_roundw
              case rel => exact ⟨k + 1, by omega, by go_num, ⟨Q.out.os, Q.out.tape, Q.out.output, Q.out.size, Q.out.block⟩⟩
              case measure => simp [intOf]; omega
          · obtain rfl : k = n := by omega
            go_wp2_with fail
            go_roundw
            case rel => exact ⟨i + 1, by omega, by go_num, Q.out⟩
            case measure => simp [intOf]; omega
      · obtain rfl : i = n := by omega
        have P : Hd (Below w.heap.size w wr) := ⟨B2.out.trans (p3.mono B2.out.size)⟩
        clear p3
        go_wp2_with fail
        go_ret
        exact ⟨rfl, P.out⟩
  · clear hres
    go_wp2_with fail
    go_ret
    exact ⟨rfl, B2.out⟩
  · have hz' : (refI total n (shr l) != 0) = true := by simpa using hz
    clear hres hz
    go_wp2_with fail
    go_ret
    exact ⟨rfl, B2.out⟩
end Go.Proofs.Ytkohofiobpniiaa
