/-
  What 'FaultTells' of the statements answers: true: where a line is told (no) and a name is told (no). Conditions: the wraps lie in memory; errorType and the library's table of powers hold what their text lays; the texts are not beyond the reach.
-/
import Derived.Test.YtndandkanamjoaaDoorTellB
import Derived.Deep.RegionHeld
namespace Go.Proofs.YtndandkanamjoaaDoor
open Go.RowKit Go.Lib

set_option maxHeartbeats 4000000 in
set_option maxRecDepth 20000 in
theorem tells_00 (code L0 N LL : Int) (S0 WW X dN : ByteArray) (a : Option Addr) (n cap nl : Nat) (f : Nat → Wp) (Q : List Lk) (w : World) (he : ET w) (hT : Tab w) (hR : RowW w a n f)
    (h1 : ¬ 1000000 < code) (h2 : ¬ 1000000 < L0) (hQ : Q = lks f (min n 60)) (hnl : nl = Q.length)
    (HN : Hd (N = numberOf code)) (HLL : Hd (LL = (near (fun x _ => x != 0) (Q ++ [(⟨L0, S0⟩ : Lk)]).reverse).line)) (HWW : Hd (WW = (near (fun _ y => !y.toList.isEmpty) (Q ++ [(⟨L0, S0⟩ : Lk)]).reverse).what))
    (HBD : Hd (Bd N LL WW)) (HX : Hd (X = tell N LL WW)) (hX : ⟨#[]⟩ ++ ⟨#[101, 114, 114, 111, 114, 32]⟩ ++ dN = X) (HDN : Hd (dN = digB N ∧ N ≤ 9223372036854775807)) (sN : dN.size ≤ 19)
    (hL : ¬ 0 < LL) (hW : (!WW.toList.isEmpty) = false) :
    Calls Tryd.prog 7 #[.int .i64 code, .slice a n cap, .int .i64 L0, .string S0] w fun e w' => e = .returned (.bool true) ∧ Below w.heap.size w w' := by
  obtain ⟨i0, hi, hz0, hz1, hz2⟩ := info_parts info50
  have E0 : Hd (ET w) := ⟨he⟩
  have T0 : Hd (Tab w) := ⟨hT⟩
  have R0 : Hd (RowW w a n f) := ⟨hR⟩
  have B0 : Hd (Below w.heap.size w w) := ⟨Below.refl _ _⟩
  have M := fun w h => made_q code a n cap f w h
  rw [← hQ] at M
  rw [← hnl] at M
  have NL : Hd (nl = Q.length ∧ nl ≤ 60) := ⟨hnl, by rw [hnl, hQ, lks_len]; omega⟩
  have HN1 : Hd (nl + 1 = (Q ++ [(⟨L0, S0⟩ : Lk)]).length ∧ nl + 1 ≤ 61) := ⟨by rw [List.length_append, ← hnl]; rfl, by have := NL.out.2; omega⟩
  clear he hT hR hnl hQ
  go_enter Tryd.func7, Tryd.ntmps7
  go_wp2_with (go_at_call 8; refine (awake_ok _ E0.out).mono ?_; rintro e w1 ⟨rfl, b1⟩; have R1 : Hd (RowW w1 a n f) := ⟨R0.out.stays b1⟩; have B1 := HB B0 b1; clear b1)
  clear R0 B0
  go_loop [9] (fun i => ∃ k : Nat, k ≤ n ∧ k ≤ 60 ∧ i = .int .i64 k) (fun i => 60 - (RowKit.intOf i).toNat)
  case atStart => exact ⟨0, Nat.zero_le _, Nat.zero_le _, rfl⟩
  case round =>
    obtain ⟨k, hkn, hk, rfl⟩ := hrel
    by_cases c : k < n ∧ k < 60
    · obtain ⟨c1, c2⟩ := c
      obtain ⟨b, off, hab, hb, hcell⟩ := R1.out (by omega)
      obtain ⟨q0, q1, q2⟩ := hcell k c1
      obtain ⟨Lk0, hlk⟩ : ∃ x, x = (f k).line := ⟨_, rfl⟩
      rw [← hlk] at q1
      clear q0 q2 hcell hlk M
      subst hab
      by_cases c3 : 1000000 < Lk0
      · go_wp2
        go_ret
        exact ⟨rfl, B1.out⟩
      · go_wp2
        go_round
        case rel => exact ⟨k + 1, by omega, by omega, by go_num⟩
        case measure => simp [RowKit.intOf]; omega
    · by_cases c1 : k < n
      · have c2 : ¬ k < 60 := fun h => c ⟨c1, h⟩
        clear c
        go_wp2_with (first
          | (go_at_call 9; refine (M _ R1.out).mono ?_; rintro e w2 ⟨q, B, a', c, rfl, HQ, ow, b2, hB⟩; obtain ⟨T, u, rfl⟩ := q_some HQ hB; have B2 := HB B1 b2; have P0 : Hd _ := ⟨pre_new (code := code) B2.out ow.out L0 S0 (.iface T u)⟩; have BL : Hd (w.heap.size ≤ w1.heap.size) := ⟨B1.out.size⟩; have S12 : Hd (w1.heap.size ≤ w2.heap.size) := ⟨b2.size⟩; clear b2)
          | (at_builtin; go_loud (refine wpList_append_own _ rfl (.tmp 51) (.tmp 55) 26 rfl w1.heap.size 50 i0 (.agg #[.int .i64 0, .string ByteArray.empty]) 2 24 Tryd.underlying26 hi hz0 hz1 hz2 rfl (by decide) (.slice a' nl c) nl (cl Q) rfl (by have := P0.out.own; unfold OwnK at this; rw [← NL.out.1] at this; exact this) ⟨_, 0, none⟩ 1 1 [.int .i64 L0, .string S0] rfl rfl (one_newK _ _ _ _ (by simp)) (one_cellK _ _) (by have := NL.out.2; unfold maxLen; omega) (by have := NL.out.2; omega) (by have h1 := P0.out.sz; have h2 := S12.out; rw [h1]; omega) ?_; intro v' w6 hown' hgrow _; obtain ⟨a6, c6, rfl⟩ := own_shape hown'; obtain ⟨t1, t2, t3⟩ := pre_fin rfl P0.out E0.out T0.out BL.out hgrow hown' (by rw [← NL.out.1]); have G0 : Hd _ := ⟨t3⟩; have G0c0 := G0.out.c0; have G0c1 := G0.out.c1; clear hown' hgrow t3))
          | (go_at_call 13; refine (rline_q HN1 HLL _ G0.out.row).mono ?_; rintro e v1 ⟨rfl, b1⟩; have G1 := TLS G0 b1; clear b1; have G1c0 := G1.out.c0; have G1c1 := G1.out.c1)
          | (go_at_call 15; refine (rwhat_q HN1 HWW _ G1.out.row).mono ?_; rintro e v3 ⟨rfl, b3⟩; have G3 := TLS G1 b3; clear b3))
        have G4 : Hd _ := ⟨G3.out.drew⟩
        go_region_held (fun w' => (w'.cell? ⟨w2.heap.size, 0, none⟩ = some (.int .i64 code) ∧ w'.cell? ⟨w2.heap.size, 1, none⟩ = some (.slice a6 (nl + 1) c6)) ∧ (w'.cell? ⟨w2.heap.size + 1, 0, none⟩ = some (.int .i64 L0) ∧ w'.cell? ⟨w2.heap.size + 1, 1, none⟩ = some (.string S0) ∧ w'.cell? ⟨w2.heap.size + 1, 2, none⟩ = some (.iface T u)))
          (first | exact ⟨⟨G7.out.c0, G7.out.c1⟩, G7.out.f0, G7.out.f1, G7.out.f2⟩ | exact ⟨⟨G6.out.c0, G6.out.c1⟩, G6.out.f0, G6.out.f1, G6.out.f2⟩ | exact ⟨⟨G5.out.c0, G5.out.c1⟩, G5.out.f0, G5.out.f1, G5.out.f2⟩ | exact ⟨⟨G4.out.c0, G4.out.c1⟩, G4.out.f0, G4.out.f1, G4.out.f2⟩)
          (first
          | (go_at_call 21; refine (error_q HQ hB HN HLL HWW HX HBD _ G4.out.et G4.out.tab).mono ?_; rintro e v5 ⟨rfl, b5⟩; have G5 := TLS G4 b5; clear b5)
          | (go_at_call 11; refine (number_q _ _ _ HN _).mono ?_; rintro e v6 ⟨rfl, b6⟩; have G6 := TLS G5 b6; clear b6)
          | (go_at_call 20; with_reducible refine (rdig_q HDN _).mono ?_; rintro e v7 ⟨rfl, b7⟩; have G7 := TLS G6 b7; clear b7))
        all_goals
          go_wp2
          go_ret
          exact ⟨rfl, G7.out.bel⟩
      · clear c
        go_wp2_with (first
          | (go_at_call 9; refine (M _ R1.out).mono ?_; rintro e w2 ⟨q, B, a', c, rfl, HQ, ow, b2, hB⟩; obtain ⟨T, u, rfl⟩ := q_some HQ hB; have B2 := HB B1 b2; have P0 : Hd _ := ⟨pre_new (code := code) B2.out ow.out L0 S0 (.iface T u)⟩; have BL : Hd (w.heap.size ≤ w1.heap.size) := ⟨B1.out.size⟩; have S12 : Hd (w1.heap.size ≤ w2.heap.size) := ⟨b2.size⟩; clear b2)
          | (at_builtin; go_loud (refine wpList_append_own _ rfl (.tmp 51) (.tmp 55) 26 rfl w1.heap.size 50 i0 (.agg #[.int .i64 0, .string ByteArray.empty]) 2 24 Tryd.underlying26 hi hz0 hz1 hz2 rfl (by decide) (.slice a' nl c) nl (cl Q) rfl (by have := P0.out.own; unfold OwnK at this; rw [← NL.out.1] at this; exact this) ⟨_, 0, none⟩ 1 1 [.int .i64 L0, .string S0] rfl rfl (one_newK _ _ _ _ (by simp)) (one_cellK _ _) (by have := NL.out.2; unfold maxLen; omega) (by have := NL.out.2; omega) (by have h1 := P0.out.sz; have h2 := S12.out; rw [h1]; omega) ?_; intro v' w6 hown' hgrow _; obtain ⟨a6, c6, rfl⟩ := own_shape hown'; obtain ⟨t1, t2, t3⟩ := pre_fin rfl P0.out E0.out T0.out BL.out hgrow hown' (by rw [← NL.out.1]); have G0 : Hd _ := ⟨t3⟩; have G0c0 := G0.out.c0; have G0c1 := G0.out.c1; clear hown' hgrow t3))
          | (go_at_call 13; refine (rline_q HN1 HLL _ G0.out.row).mono ?_; rintro e v1 ⟨rfl, b1⟩; have G1 := TLS G0 b1; clear b1; have G1c0 := G1.out.c0; have G1c1 := G1.out.c1)
          | (go_at_call 15; refine (rwhat_q HN1 HWW _ G1.out.row).mono ?_; rintro e v3 ⟨rfl, b3⟩; have G3 := TLS G1 b3; clear b3))
        have G4 : Hd _ := ⟨G3.out.drew⟩
        go_region_held (fun w' => (w'.cell? ⟨w2.heap.size, 0, none⟩ = some (.int .i64 code) ∧ w'.cell? ⟨w2.heap.size, 1, none⟩ = some (.slice a6 (nl + 1) c6)) ∧ (w'.cell? ⟨w2.heap.size + 1, 0, none⟩ = some (.int .i64 L0) ∧ w'.cell? ⟨w2.heap.size + 1, 1, none⟩ = some (.string S0) ∧ w'.cell? ⟨w2.heap.size + 1, 2, none⟩ = some (.iface T u)))
          (first | exact ⟨⟨G7.out.c0, G7.out.c1⟩, G7.out.f0, G7.out.f1, G7.out.f2⟩ | exact ⟨⟨G6.out.c0, G6.out.c1⟩, G6.out.f0, G6.out.f1, G6.out.f2⟩ | exact ⟨⟨G5.out.c0, G5.out.c1⟩, G5.out.f0, G5.out.f1, G5.out.f2⟩ | exact ⟨⟨G4.out.c0, G4.out.c1⟩, G4.out.f0, G4.out.f1, G4.out.f2⟩)
          (first
          | (go_at_call 21; refine (error_q HQ hB HN HLL HWW HX HBD _ G4.out.et G4.out.tab).mono ?_; rintro e v5 ⟨rfl, b5⟩; have G5 := TLS G4 b5; clear b5)
          | (go_at_call 11; refine (number_q _ _ _ HN _).mono ?_; rintro e v6 ⟨rfl, b6⟩; have G6 := TLS G5 b6; clear b6)
          | (go_at_call 20; with_reducible refine (rdig_q HDN _).mono ?_; rintro e v7 ⟨rfl, b7⟩; have G7 := TLS G6 b7; clear b7))
        all_goals
          go_wp2
          go_ret
          exact ⟨rfl, G7.out.bel⟩

end Go.Proofs.YtndandkanamjoaaDoor
