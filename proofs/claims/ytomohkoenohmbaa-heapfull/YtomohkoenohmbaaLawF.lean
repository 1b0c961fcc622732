/-
  The walk of the statement 'HeapFull'. No condition.
-/
import Derived.Test.YtomohkoenohmbaaRow
namespace Go.Proofs.Ytomohkoenohmbaa
open Go.RowKit Go.Lib Go.Sort Go.Maps

set_option maxRecDepth 20000 in
set_option maxHeartbeats 2000000 in
theorem full_any (first key : Int) (w : World) (hf : -9223372036854775808 ≤ first ∧ first < 9223372036854775808) :
    Calls Try.prog 6 #[.int .i64 first, .int .u64 key] w fun e w' => e = .returned (.bool true) ∧ Below w.heap.size w w' := by
  have A := awake_any w
  by_cases c1 : first < 0
  · go_enter Try.func6, Try.ntmps6
    go_wp2_with (go_at_call 8; refine A.mono ?_; rintro e w1 ⟨rfl, b1⟩)
    go_ret
    exact ⟨rfl, b1⟩
  by_cases c2 : 1099511627776 < first
  · go_enter Try.func6, Try.ntmps6
    go_wp2_with (go_at_call 8; refine A.mono ?_; rintro e w1 ⟨rfl, b1⟩)
    go_ret
    exact ⟨rfl, b1⟩
  go_enter Try.func6, Try.ntmps6
  go_wp2_with fail
  go_at_call 8
  refine A.mono ?_
  rintro e w1 ⟨rfl, b1⟩
  have N := held_new w1
  clear A
  go_wp2_with fail
  go_at_call 9
  refine N.mono ?_
  rintro e w2 ⟨hb, rfl, H2, b2⟩
  have bb : Below w.heap.size w w2 := b1.trans (b2.mono b1.size)
  have H2' := H2.base b1.size
  clear N b1 b2 H2
  go_wp2_with fail
  go_loopw [6] (fun v wr => ∃ (k : Nat) (M : Int × Int → Prop), k ≤ 4096 ∧ v = .int .i64 k ∧ Held w.heap.size wr hb M k ∧ (∀ y, M y → first ≤ y.2 ∧ y.2 < first + k) ∧ (∀ j : Nat, j < k → ∃ y, M y ∧ y.2 = first + j) ∧ Below w.heap.size w wr) (fun v _ => 4096 - (intOf v).toNat)
  case atStart => exact ⟨0, _, by omega, rfl, H2', fun _ h => h.elim, fun j h => by omega, bb⟩
  case round =>
    obtain ⟨k, M, hk, rfl, H, hM, hI, bk⟩ := hrel
    clear H2' bb
    by_cases hlt : k < 4096
    · obtain ⟨E, hE⟩ : ∃ E, E = (IntKind.u64.wrap (key * (k : Int))).tmod 97 := ⟨_, rfl⟩
      have hE0 : 0 ≤ E ∧ E < 18446744073709551616 := by
        rw [hE, IntKind.wrap_u64, Int.tmod_eq_emod_of_nonneg (by omega)]
        omega
      have P := H.push hlt (E, first + k) ⟨hE0, by dsimp only; omega⟩ (fun y hy => by have := hM y hy; dsimp only; omega)
      unfold vI at P
      rw [hE] at P
      go_wp2_with (go_at_call 11; refine P.mono ?_; rintro e w3 ⟨rfl, H3, b3⟩)
      go_roundw
      case rel =>
        refine ⟨k + 1, _, by omega, by go_num, H3, ?_, ?_, bk.trans b3⟩
        · rintro y (rfl | hy)
          · dsimp only; omega
          · have := hM y hy; omega
        · intro j hj
          by_cases c : j = k
          · exact ⟨_, .inl rfl, by rw [c]⟩
          · obtain ⟨y, hy, e⟩ := hI j (by omega)
            exact ⟨y, .inr hy, e⟩
      case measure => simp [intOf]; omega
    · obtain rfl : k = 4096 := by omega
      obtain ⟨y0, hy0, e0⟩ := hI 0 (by omega)
      obtain ⟨y7, hy7, e7⟩ := hI 7 (by omega)
      have W1 : Wf (0, -1) := by unfold Wf; decide
      have W2 : Wf (0, -2) := by unfold Wf; decide
      have P1 := H.full (0, -1) W1 (fun y hy => by have := hM y hy; dsimp only; omega)
      unfold vI at P1
      dsimp only at P1
      go_wp2_with fail
      go_at_call 11
      refine P1.mono ?_
      rintro e w3 ⟨rfl, b3⟩
      have H3 := H.below b3
      have bk3 := bk.trans (b3.mono H.1)
      have P2 := H3.twice (0, first) y0 ⟨by dsimp only; omega, by dsimp only; omega⟩ hy0 (by dsimp only; omega)
      unfold vI at P2
      dsimp only at P2
      clear P1 H b3 bk
      go_wp2_with fail
      go_at_call 11
      refine P2.mono ?_
      rintro e w4 ⟨rfl, b4⟩
      have H4 := H3.below b4
      have bk4 := bk3.trans (b4.mono H3.1)
      have L := H4.len
      have P3 := H4.remove y7 hy7
      rw [e7] at P3
      clear P2 H3 b4 bk3
      go_wp2_with fail
      go_at_call 22
      refine L.mono ?_
      rintro e w' ⟨rfl, hw⟩
      obtain rfl := hw.symm
      go_wp2_with fail
      go_at_call 14
      refine P3.mono ?_
      rintro e w5 ⟨rfl, H5, b5⟩
      have bk5 := bk4.trans b5
      have P4 := H5.push (by omega) (0, -1) W1 (fun y hy => by have := hM y hy.1; dsimp only; omega)
      unfold vI at P4
      dsimp only at P4
      clear P3 H4 b5 bk4 L
      go_wp2_with fail
      go_at_call 11
      refine P4.mono ?_
      rintro e w6 ⟨rfl, H6, b6⟩
      have bk6 := bk5.trans b6
      have P5 := H6.full (0, -2) W2 (fun y hy => by
        rcases hy with rfl | hy
        · decide
        · have := hM y hy.1; dsimp only; omega)
      unfold vI at P5
      dsimp only at P5
      clear P4 H5 b6 bk5
      go_wp2_with fail
      go_at_call 11
      refine P5.mono ?_
      rintro e w7 ⟨rfl, b7⟩
      have bk7 := bk6.trans (b7.mono H6.1)
      go_wp2
      go_ret
      exact ⟨rfl, bk7⟩
end Go.Proofs.Ytomohkoenohmbaa
