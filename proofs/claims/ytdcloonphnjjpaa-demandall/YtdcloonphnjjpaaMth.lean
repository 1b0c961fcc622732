/-
  Demands: what a number counts as, how a smoothed number falls. No condition.
-/
namespace Go.Proofs.Ytdcloonphnjjpaa

/-- What a number of seats counts as. -/
def cnt (n : Int) : Int := min (max n 0) 1048576
theorem cnt_lo (n : Int) : 0 ≤ cnt n := by unfold cnt; omega
theorem cnt_hi (n : Int) : cnt n ≤ 1048576 := by unfold cnt; omega
theorem cnt_cnt (n : Int) : cnt (cnt n) = cnt n := by unfold cnt; omega
theorem cnt_of {n : Int} (h : 0 ≤ n) (h' : n ≤ 1048576) : cnt n = n := by unfold cnt; omega
/-- The smoothed number behind a Turn. -/
def smo (h s : Int) : Int := if s ≤ h then h else s - (s - h + 3) / 4
theorem smo_le {h s : Int} (c : s ≤ h) : smo h s = h := if_pos c
theorem smo_gt {h s : Int} (c : ¬ s ≤ h) : smo h s = s - (s - h + 3) / 4 := if_neg c
theorem smo_lo {h s : Int} : h ≤ smo h s := by
  by_cases c : s ≤ h
  · rw [smo_le c]; omega
  · rw [smo_gt c]; omega
theorem smo_hi {h s : Int} : smo h s ≤ max h s := by
  by_cases c : s ≤ h
  · rw [smo_le c]; omega
  · rw [smo_gt c]; omega
theorem smo_lt {h s : Int} (c : ¬ s ≤ h) : smo h s < s := by rw [smo_gt c]; omega
/-- What is above stays below three quarters. -/
theorem smo_falls {h s M : Int} (c : s - h ≤ M) (m : 0 ≤ M) : smo h s - h ≤ M - (M + 3) / 4 := by
  by_cases d : s ≤ h
  · rw [smo_le d]; omega
  · rw [smo_gt d]; omega
/-- The most that is above behind k Turns. -/
def gap : Nat → Int
  | 0 => 1048576
  | k + 1 => gap k - (gap k + 3) / 4
theorem gap_nn : ∀ k, 0 ≤ gap k
  | 0 => by decide
  | k + 1 => by have := gap_nn k; unfold gap; omega
theorem gap_50 : gap 50 = 0 := by decide
end Go.Proofs.Ytdcloonphnjjpaa
