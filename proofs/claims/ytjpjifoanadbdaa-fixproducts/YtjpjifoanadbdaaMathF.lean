/-
  Plain arithmetic of numbers that stop at a cap: order, and back again. Conditions: those that each lemma states. No Go text is walked here.
-/
import Derived.Test.YtjpjifoanadbdaaWalkE
namespace Go.Proofs.Ytjpjifoanadbdaa
open Go.RowKit Go.Lib

theorem capI_mono {a b : Int} (h : a ≤ b) : capI a ≤ capI b := by unfold capI; repeat' split
                                                                  all_goals omega
theorem capI_le (a : Int) : capI a ≤ 4611686018427387904 := by unfold capI; split <;> omega
theorem capI_of_le {a : Int} (h : a ≤ 4611686018427387904) : capI a = a := by unfold capI; rw [if_pos h]
theorem capI_nn {a : Int} (h : 0 ≤ a) : 0 ≤ capI a := by unfold capI; split <;> omega
theorem capI_pos {a : Int} (h : 0 < a) : 0 < capI a := by unfold capI; split <;> omega

theorem addI_word {a b : Int} (ha : Word a) (hb : Word b) : Word (addI a b) := by
  have h1 := capI_lo ha; have h2 := capI_lo hb
  have h3 := capI_le (capI a + capI b); have h4 := capI_nn (a := capI a + capI b) (by omega)
  unfold addI; exact ⟨h4, by omega⟩
theorem mul_nn {a b : Int} (ha : Word a) (hb : Word b) : 0 ≤ capI a * capI b := Int.mul_nonneg (capI_lo ha) (capI_lo hb)
theorem mulI_word {a b : Int} (ha : Word a) (hb : Word b) : Word (mulI a b) := by
  have h3 := capI_le (capI a * capI b); have h4 := capI_nn (mul_nn ha hb)
  unfold mulI; exact ⟨h4, by omega⟩

theorem addI_comm (a b : Int) : addI a b = addI b a := by unfold addI; rw [Int.add_comm]
theorem mulI_comm (a b : Int) : mulI a b = mulI b a := by unfold mulI; rw [Int.mul_comm]
theorem addI_assoc {a b c : Int} (ha : Word a) (hb : Word b) (hc : Word c) : addI (addI a b) c = addI a (addI b c) := by
  obtain ⟨a1, a2⟩ := ha; obtain ⟨b1, b2⟩ := hb; obtain ⟨c1, c2⟩ := hc
  unfold addI capI; repeat' split
  all_goals omega

theorem addI_mono {a b : Int} (c : Int) (h : a ≤ b) : addI a c ≤ addI b c := by
  unfold addI; exact capI_mono (by have := capI_mono h; omega)
theorem subI_mono {a b : Int} (c : Int) (h : a ≤ b) : subI a c ≤ subI b c := by
  have := capI_mono h
  unfold subI; repeat' split
  all_goals omega
theorem subI_anti {a b : Int} (c : Int) (h : a ≤ b) : subI c b ≤ subI c a := by
  have := capI_mono h
  unfold subI; repeat' split
  all_goals omega
theorem mulI_mono {a b c : Int} (hc : Word c) (h : a ≤ b) : mulI a c ≤ mulI b c := by
  unfold mulI; exact capI_mono (Int.mul_le_mul_of_nonneg_right (capI_mono h) (capI_lo hc))
theorem mulDivI_mono {a b c d : Int} (hc : Word c) (hd : Word d) (h : a ≤ b) : mulDivI a c d ≤ mulDivI b c d := by
  have h0 := capI_lo hd
  unfold mulDivI; split
  · omega
  · exact capI_mono (Int.ediv_le_ediv (by omega) (Int.mul_le_mul_of_nonneg_right (capI_mono h) (capI_lo hc)))
theorem ediv_anti {p c d : Int} (hp : 0 ≤ p) (hc : 0 < c) (h : c ≤ d) : p / d ≤ p / c := by
  rw [Int.le_ediv_iff_mul_le hc]
  have h1 : p / d * c ≤ p / d * d := Int.mul_le_mul_of_nonneg_left h (Int.ediv_nonneg hp (by omega))
  have h2 : p / d * d ≤ p := Int.ediv_mul_le _ (by omega)
  omega
theorem mulDivI_anti {a b c d : Int} (ha : Word a) (hc : Word c) (hd : Word d) (h : a ≤ b) : mulDivI c d b ≤ mulDivI c d a := by
  have h0 := capI_lo ha; have hm := capI_mono h
  have h1 := capI_le (capI c * capI d / capI b)
  unfold mulDivI
  by_cases z : capI a = 0
  · rw [if_pos z]; split <;> omega
  · rw [if_neg z, if_neg (by omega)]
    exact capI_mono (ediv_anti (mul_nn hc hd) (by omega) hm)

theorem back_add {a b : Int} (ha : Word a) (hb : Word b) (h : addI a b < 4611686018427387904) : subI (addI a b) b = a ∧ subI (addI a b) a = b := by
  obtain ⟨a1, a2⟩ := ha; obtain ⟨b1, b2⟩ := hb
  unfold addI capI at h
  unfold subI addI capI
  constructor <;> (revert h; repeat' split) <;> omega
theorem back_mulDiv {a b : Int} (hb : 0 < b) (hb1 : b ≤ 4611686018427387904) (ha1 : a ≤ 4611686018427387904) : mulDivI a b b = a := by
  unfold mulDivI
  rw [capI_of_le hb1, capI_of_le ha1, if_neg (by omega), Int.mul_ediv_cancel _ (by omega), capI_of_le ha1]
theorem cmpI_self (a b : Int) : cmpI a b a b = 0 := by
  unfold cmpI sgnI; repeat' split
  all_goals omega
theorem back_mul {a b : Int} (ha : Word a) (hb : 0 < b) (h : mulI a b < 4611686018427387904) : mulDivI (mulI a b) 1 b = a := by
  have hb' := capI_pos hb
  have ha' := capI_lo ha
  have hp : capI a * capI b < 4611686018427387904 := by
    unfold mulI at h
    refine Int.not_le.mp fun hle => ?_
    have := capI_mono hle
    rw [show capI 4611686018427387904 = 4611686018427387904 by decide] at this
    omega
  have hm : mulI a b = capI a * capI b := by unfold mulI; exact capI_of_le (by omega)
  have hle : capI a * 1 ≤ capI a * capI b := Int.mul_le_mul_of_nonneg_left (by omega) ha'
  have hca : capI a = a := by
    have h2 : capI a < 4611686018427387904 := by omega
    unfold capI at h2 ⊢
    revert h2; split <;> omega
  unfold mulDivI
  rw [if_neg (by omega), hm, capI_of_le (a := capI a * capI b) (by omega), show capI 1 = 1 by decide, Int.mul_one, Int.mul_ediv_cancel _ (by omega), hca]
  rw [hca] at hle hp
  exact capI_of_le (by omega)
end Go.Proofs.Ytjpjifoanadbdaa
