/-
  What 'Div64' answers: the quotient of a number of two words by a word, where that is a word. Conditions: hi below y, y at most 2^62.
-/
import Derived.Test.YtjpjifoanadbdaaWalkC
import Derived.Test.YtjpjifoanadbdaaMathD
import Derived.RegionTactic
import Derived.ChangeAlike
import Derived.Deep.QuietTactic
import Derived.BigQuiet
namespace Go.Proofs.Ytjpjifoanadbdaa
open Go.RowKit Go.Lib

set_option maxHeartbeats 400000 in
theorem div64_low (lo y : Int) (w : World) (hl : Word lo) (hy : Word y) (h0 : 0 < y) :
    Calls Try.prog 25 #[.int .u64 0, .int .u64 lo, .int .u64 y] w fun e w' => (∃ r : Int, e = .returned (.tuple #[.int .u64 (lo / y), .int .u64 r])) ∧ ∃ n, w' = w.drewN n := by
  obtain ⟨l1, l2⟩ := hl; obtain ⟨y1, y2⟩ := hy
  have hy' : (y == 0) = false := by simp; omega
  go_enter Try.func25, Try.ntmps25
  go_wp2
  go_quiet (fail)
  go_wp2
  go_ret2
  exact ⟨⟨_, rfl⟩, _, rfl⟩

set_option maxHeartbeats 4000000 in
theorem div64_any (hi lo y : Int) (w : World) (hl : Word lo) (hh : Word hi) (hy : Word y) (h0 : 0 < hi) (h1 : hi < y) (h2 : y ≤ 4611686018427387904) :
    Calls Try.prog 25 #[.int .u64 hi, .int .u64 lo, .int .u64 y] w fun e w' => (∃ r : Int, e = .returned (.tuple #[.int .u64 ((hi * 18446744073709551616 + lo) / y), .int .u64 r])) ∧ w' = w := by
  obtain ⟨l1, l2⟩ := id hl; obtain ⟨y1, y2⟩ := id hy; obtain ⟨i1, i2⟩ := id hh
  have hy' : (y == 0) = false := by simp; omega
  have hh' : (hi == 0) = false := by simp; omega
  generalize hE : (hi * 18446744073709551616 + lo) / y = E
  have HE : Hid ((hi * 18446744073709551616 + lo) / y = E) := hE
  clear hE
  go_enter Try.func25, Try.ntmps25
  go_wp2_with (go_at_call 29; refine (lz64_any _ _ hy (by omega)).mono ?_; rintro e w' ⟨⟨n, rfl, s, hs, hs63, hs1, hs2⟩, rfl⟩; subst hs; obtain ⟨Y, yn1, yn0, u, v, v1, v0, e1, e2, e3, e4, e5, e6, e7, b1, b2, e8, b3, b4, b5, b6, b7, b8, b9, b10, b11, b12, b13, e9⟩ := norm_ex hi lo y s hl i1 h1 hs63 hs1 hs2; obtain ⟨g1, g2, g3, g4, g5⟩ := guess_bd u Y yn1 yn0 b1 b2 e8 b3 b6; have H8 : Hid (Y = yn1 * 4294967296 + yn0) := e8; have H9 : Hid _ := e9; clear e8 e9 hs1 hs2; generalize f1 : u / yn1 = qg at *; generalize f2 : qg * yn1 = m at *)
  clear e1 e2 e3 e4 e5 e6 e7
  obtain ⟨q1, hq1⟩ := isQ_ex u v1 Y b1 b2 b8 b9
  obtain ⟨k1, k2, -, -⟩ := id hq1
  have hY0 : 0 < Y := by omega
  go_loop [15, 16] (fun t r => ∃ qh rh : Int, t = .int .u64 qh ∧ r = .int .u64 rh ∧ Hid (qh * yn1 + rh = u) ∧ q1 ≤ qh ∧ qh ≤ 4294967297 ∧ 0 ≤ rh ∧ rh < 4294967296) (fun t _ => (intOf t).toNat)
  case atStart =>
    have hfirst := isQ_guess hq1 b9 H8.out b3 b5
    rw [f1] at hfirst
    exact ⟨qg, u - m, by rw [f1], rfl, by show _ = _; omega, hfirst, by omega, by omega, by omega⟩
  case round =>
    clear f1 f2 g1 g2 g3 g4 g5
    obtain ⟨qh, rh, rfl, rfl, HI, j1, j2, j3, j4⟩ := hrel
    have hways := round_ways hq1 hY0 H8.out b8 HI.out j1 j2 b5 b6
    have hin := inv_next HI.out
    have HN : Hid ((qh - 1) * yn1 + (rh + yn1) = u) := hin
    clear hin
    have hpb : qh ≤ 4294967296 → 0 ≤ qh * yn0 ∧ qh * yn0 < 18446744073709551616 := fun hlt => prod_bd (by omega) hlt b5 b6
    generalize hp : qh * yn0 = p at *
    rcases hways with ⟨t1, t2, t3⟩ | ⟨t1, t2, t3, t4⟩ | hways
    · clear hpb
      go_wp2
      go_round
      case rel => exact ⟨qh - 1, rh + yn1, rfl, rfl, HN, by omega, by omega, by omega, by omega⟩
      case measure => simp [intOf]; omega
    · obtain ⟨p1, p2⟩ := hpb (by omega)
      clear hpb
      go_wp2
      go_round
      case rel => exact ⟨qh - 1, rh + yn1, rfl, rfl, HN, by omega, by omega, by omega, by omega⟩
      case measure => simp [intOf]; omega
    · obtain ⟨p1, p2⟩ := hpb (by rcases hways with h | h | h <;> omega)
      clear hpb
      obtain ⟨u2, e1, e2, c1, c2⟩ := second u v1 Y q1 hq1 b7
      have H2 : Hid (u2 = u * 4294967296 + v1 - q1 * Y) := e2
      clear e2
      obtain ⟨g1, g2, g3, g4, g5⟩ := guess_bd u2 Y yn1 yn0 c1 c2 H8.out b3 b6
      obtain ⟨q0, hq0⟩ := isQ_ex u2 v0 Y c1 c2 b10 b11
      obtain ⟨k3, k4, -, -⟩ := id hq0
      have HF : Hid ((u * 18446744073709551616 + (v1 * 4294967296 + v0)) / Y = q1 * 4294967296 + q0) := quo_two hY0 hq1 (by rw [← H2.out]; exact hq0)
      obtain rfl : E = q1 * 4294967296 + q0 := by rw [← HE.out, ← H9.out]; exact HF.out
      clear HF HE H9 H2
      have hfirst := isQ_guess hq0 b11 H8.out b3 b5
      generalize f1 : u2 / yn1 = qg2 at *
      generalize f2 : qg2 * yn1 = m2 at *
      rcases hways with ⟨rfl, t1, t2⟩ | ⟨rfl, t1, t2, t3⟩ | ⟨rfl, t1, t2⟩
      all_goals
        go_wp2
        clear e1 hp t1 t2
        go_loop [18, 16] (fun t r => ∃ qh rh : Int, t = .int .u64 qh ∧ r = .int .u64 rh ∧ Hid (qh * yn1 + rh = u2) ∧ q0 ≤ qh ∧ qh ≤ 4294967297 ∧ 0 ≤ rh ∧ rh < 4294967296) (fun t _ => (intOf t).toNat)
        case atStart => exact ⟨qg2, u2 - m2, by first | rfl | rw [f1], rfl, by show _ = _; omega, hfirst, by omega, by omega, by omega⟩
        case round =>
          clear f1 f2 g1 g2 g3 g4 g5 hfirst
          obtain ⟨qk, rk, rfl, rfl, HK, j5, j6, j7, j8⟩ := hrel
          have hways := round_ways hq0 hY0 H8.out b10 HK.out j5 j6 b5 b6
          have hin := inv_next HK.out
          have HM : Hid ((qk - 1) * yn1 + (rk + yn1) = u2) := hin
          clear hin
          have hpb : qk ≤ 4294967296 → 0 ≤ qk * yn0 ∧ qk * yn0 < 18446744073709551616 := fun hlt => prod_bd (by omega) hlt b5 b6
          generalize hpk : qk * yn0 = pk at *
          rcases hways with ⟨t1, t2, t3⟩ | ⟨t1, t2, t3, t4⟩ | hways
          · clear hpb
            go_wp2
            go_round
            case rel => exact ⟨qk - 1, rk + yn1, rfl, rfl, HM, by omega, by omega, by omega, by omega⟩
            case measure => simp [intOf]; omega
          · obtain ⟨p3, p4⟩ := hpb (by omega)
            clear hpb
            go_wp2
            go_round
            case rel => exact ⟨qk - 1, rk + yn1, rfl, rfl, HM, by omega, by omega, by omega, by omega⟩
            case measure => simp [intOf]; omega
          · obtain ⟨p3, p4⟩ := hpb (by rcases hways with h | h | h <;> omega)
            clear hpb
            rcases hways with ⟨rfl, t1, t2⟩ | ⟨rfl, t1, t2, t3⟩ | ⟨rfl, t1, t2⟩
            all_goals
              go_wp2
              go_ret2
              exact ⟨⟨_, rfl⟩, rfl⟩
end Go.Proofs.Ytjpjifoanadbdaa
