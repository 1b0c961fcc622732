/-
  What 'DealWhole' of the statements answers: true, for every hash, every deck and every number of cards. No condition.
-/
import Derived.Test.YtcfjnflicgifjaaWalkD
namespace Go.Proofs.Ytcfjnflicgifjaa
open Go.RowKit

theorem isHand_deal {D n H : Nat} (hg : Good D n) : IsHand D n (crd (at_ D H)) :=
  ⟨fun k hk => crd_lt (at_lt (by have := hg.nd; omega)), fun k _ j hj => (crd_fresh _ hj).symm⟩

theorem whole_no (h deck n : Int) (w : World) (hr : (refH deck n == 0) = false) :
    Calls Try.prog 6 #[.int .u64 h, .int .i64 deck, .int .i64 n] w fun e w' => e = .returned (.bool true) ∧ Below w.heap.size w w' := by
  have h' : (refH deck n != 0) = true := by simpa using hr
  go_enter Try.func6, Try.ntmps6
  go_wp2_with (first
    | (go_at_call 8; refine (awake_any _).mono ?_; rintro e w1 ⟨rfl, hb1⟩)
    | (go_at_call 11; refine (hands_no _ _ _ hr).mono ?_; rintro e w' ⟨rfl, hw⟩; obtain rfl := hw.symm))
  go_ret; exact ⟨rfl, hb1⟩

theorem whole_yes (H D n : Nat) (w : World) (hg : Good D n) (hH : H < 18446744073709551616) :
    Calls Try.prog 6 #[.int .u64 H, .int .i64 D, .int .i64 n] w fun e w' => e = .returned (.bool true) ∧ Below w.heap.size w w' := by
  obtain ⟨⟨hd0, hd1, hn0, hn1, hnd⟩, hfew⟩ := id hg
  have hpos := P_pos n hnd
  have hK : H % P D n < 18446744073709551616 := Nat.lt_of_le_of_lt (Nat.mod_le _ _) hH
  have hKP : H % P D n < P D n := Nat.mod_lt _ hpos
  have e1 : (H : Int).tmod (P D n : Int) = (H % P D n : Nat) := (Int.ofNat_tmod _ _).symm
  have HS : Hid (∀ k, k < n → hand D H k = hand D (H % P D n) k) := fun k hk => by
    unfold hand ints
    rw [crd_congr (a := at_ D H) (b := at_ D (H % P D n)) (fun i hi => (at_rest D H n i (by omega)).symm)]
  have HW : Hid (dig D (rk (crd (at_ D H))) n = H % P D n) := by
    show _ = _
    rw [← dig_at, dig_congr n (fun i _ => rk_crd (at_ D H) i)]
  go_enter Try.func6, Try.ntmps6
  go_wp2_with (first
    | (go_at_call 8; refine (awake_any _).mono ?_; rintro e w1 ⟨rfl, hb1⟩)
    | (go_at_call 11; refine (hands_yes _ _ _ hg).mono ?_; rintro e w' ⟨rfl, hw⟩; obtain rfl := hw.symm))
  go_at_call 9
  refine (deal_yes _ _ _ _ hg hH).mono ?_
  rintro e w2 ⟨b, rfl, hb, o1, hb2⟩
  generalize hgP : P D n = p at *
  generalize hgK : H % p = K at *
  clear hgP
  go_wp2_with fail
  go_at_call 9
  refine (deal_yes _ _ _ _ hg hK).mono ?_
  rintro e w3 ⟨c, rfl, hc, o2, hb3⟩
  have o1' := o1.carry hb3
  go_wp2_with fail
  go_at_call 15
  refine (which_yes _ _ _ _ _ _ o1'.row (Nat.le_refl _) hg (isHand_deal hg)).mono ?_
  rintro e w4 ⟨rfl, hb4⟩
  rw [HW.out]
  have hb5 : Below w.heap.size w w2 := hb1.trans (hb2.mono hb1.size)
  have hb6 : Below w.heap.size w w3 := hb5.trans (hb3.mono hb5.size)
  have hb7 : Below w.heap.size w w4 := hb6.trans (hb4.mono hb6.size)
  have r1 := o1'.row.carry hb4
  have r2 := o2.row.carry hb4
  clear o1 o1' o2 hb1 hb2 hb3 hb4 hb5 hb6 HW hg hgK
  go_wp2_with (go_at_call 13; refine (same_yes _ _ _ _ _ _ _ _ r1 r2 (by omega) HS.out).mono ?_; rintro e w5 ⟨rfl, hb8⟩)
  go_ret
  exact ⟨rfl, hb7.trans (hb8.mono hb7.size)⟩

theorem word_nat {a : Int} (h : (Lit.int .u64 a).wf = true) : ∃ n : Nat, a = n ∧ n < 18446744073709551616 := by
  simp [Lit.wf, IntKind.min, IntKind.max, IntKind.bits, IntKind.signed] at h
  exact ⟨a.toNat, by omega, by omega⟩

theorem whole_any (h deck n : Int) (w : World) (hw : (Lit.int .u64 h).wf = true) :
    Calls Try.prog 6 #[.int .u64 h, .int .i64 deck, .int .i64 n] w fun e w' => e = .returned (.bool true) ∧ Below w.heap.size w w' := by
  by_cases z : refH deck n = 0
  · obtain ⟨D, m, rfl, rfl, hg⟩ := good_of z
    obtain ⟨H, rfl, hH⟩ := word_nat hw
    exact whole_yes H D m w hg hH
  · exact whole_no h deck n w (by simpa using z)
end Go.Proofs.Ytcfjnflicgifjaa
