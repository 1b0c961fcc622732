/-
  What is filled: how great it is. No condition.
-/
import Derived.Test.YtlkoaldekmdcoaaGreatDoorFlF
namespace Go.Proofs.YtlkoaldekmdcoaaGreatDoor
open Go.RowKit

theorem orU_ne (x u : Int) (h : u ≠ 0) : orU x u ≠ 0 := by unfold orU; split <;> assumption
theorem orU_keep {x : Int} (u : Int) (h : x ≠ 0) : orU x u = x := if_neg h
theorem orU_idem (x u : Int) (h : u ≠ 0) : orU (orU x u) u = orU x u := orU_keep u (orU_ne x u h)
theorem anyL_append (L M : List Lv) (x : ByteArray) : anyL (L ++ M) x = (anyL L x || anyL M x) := by unfold anyL; rw [List.any_append]
theorem anyS_append (L M : List Sc) (x : ByteArray) : anyS (L ++ M) x = (anyS L x || anyS M x) := by unfold anyS; rw [List.any_append]
theorem lvX_e : anyL [lvX] tExempt = true := by unfold anyL lvX; simp
theorem lvY_c : anyL [lvY] tCatch = true := by unfold anyL lvY; simp
theorem scX_e : anyS [scX] tExempt = true := by unfold anyS scX; simp
theorem scY_c : anyS [scY] tCatch = true := by unfold anyS scY; simp
theorem lvXY : anyL [lvX, lvY] tExempt = true ∧ anyL [lvX, lvY] tCatch = true := by unfold anyL lvX lvY; simp
theorem scXY : anyS [scX, scY] tExempt = true ∧ anyS [scX, scY] tCatch = true := by unfold anyS scX scY; simp
theorem fillL_has (L : List Lv) : anyL (fillL L) tExempt = true ∧ anyL (fillL L) tCatch = true := by
  unfold fillL putX
  cases h1 : anyL L tExempt <;> cases h2 : anyL L tCatch <;> simp [anyL_append, h1, h2, lvX_e, lvY_c, lvXY]
theorem fillS_has (L : List Sc) : anyS (fillS L) tExempt = true ∧ anyS (fillS L) tCatch = true := by
  unfold fillS putX
  cases h1 : anyS L tExempt <;> cases h2 : anyS L tCatch <;> simp [anyS_append, h1, h2, scX_e, scY_c, scXY]
theorem fillL_idem (L : List Lv) : fillL (fillL L) = fillL L := by
  obtain ⟨h1, h2⟩ := fillL_has L
  show putX (anyL (fillL L) tCatch) (putX (anyL (fillL L) tExempt) (fillL L) lvX) lvY = fillL L
  rw [h1, h2]
  rfl
theorem fillS_idem (L : List Sc) : fillS (fillS L) = fillS L := by
  obtain ⟨h1, h2⟩ := fillS_has L
  show putX (anyS (fillS L) tCatch) (putX (anyS (fillS L) tExempt) (fillS L) scX) scY = fillS L
  rw [h1, h2]
  rfl
theorem fillC_idem (C : Cf) : fillC (fillC C) = fillC C := by
  unfold fillC
  simp only [fillL_idem, fillS_idem, orU_idem _ _ (by decide : (100 : Int) ≠ 0), orU_idem _ _ (by decide : (10 : Int) ≠ 0)]
theorem fillL_ext (L : List Lv) : ∃ T, fillL L = L ++ T ∧ T.length ≤ 2 ∧ ∀ l ∈ T, l = lvX ∨ l = lvY := by
  unfold fillL putX
  cases anyL L tExempt <;> cases anyL L tCatch
  · exact ⟨[lvX, lvY], by simp, by simp, by simp⟩
  · exact ⟨[lvX], by simp, by simp, by simp⟩
  · exact ⟨[lvY], by simp, by simp, by simp⟩
  · exact ⟨[], by simp, by simp, by simp⟩
theorem fillS_ext (L : List Sc) : ∃ T, fillS L = L ++ T ∧ T.length ≤ 2 ∧ ∀ l ∈ T, l = scX ∨ l = scY := by
  unfold fillS putX
  cases anyS L tExempt <;> cases anyS L tCatch
  · exact ⟨[scX, scY], by simp, by simp, by simp⟩
  · exact ⟨[scX], by simp, by simp, by simp⟩
  · exact ⟨[scY], by simp, by simp, by simp⟩
  · exact ⟨[], by simp, by simp, by simp⟩
theorem rlX_f : RlF rlX := by
  refine ⟨⟨?_, ?_⟩, ⟨?_, ?_⟩, ⟨?_, ?_⟩, ⟨?_, ?_⟩, ?_, ?_⟩ <;> simp [rlX] <;> decide
theorem rlY_f : RlF rlY := by
  refine ⟨⟨?_, ?_⟩, ⟨?_, ?_⟩, ⟨?_, ?_⟩, ⟨?_, ?_⟩, ?_, ?_⟩ <;> simp [rlY] <;> decide
theorem fillC_fits {n : Nat} {C : Cf} (h : Fits C) (hb : Bnd n C) (hn : n ≤ 1000) : Fits (fillC C) := by
  obtain ⟨T, e1, t1, m1⟩ := fillL_ext C.levels
  obtain ⟨U, e2, t2, m2⟩ := fillS_ext C.schemas
  have a1 := hb.lv
  have a2 := hb.sc
  refine ⟨⟨?_, ?_⟩, ⟨?_, ?_⟩, ?_⟩
  · show (fillL C.levels).length ≤ _; rw [e1, List.length_append]; omega
  · show (fillS C.schemas).length ≤ _; rw [e2, List.length_append]; omega
  · show ∀ l ∈ fillL C.levels, _
    rw [e1]
    intro l hl
    rcases List.mem_append.1 hl with hl | hl
    · exact h.nm.1 l hl
    · rcases m1 l hl with rfl | rfl <;> decide
  · show ∀ l ∈ fillS C.schemas, _
    rw [e2]
    intro l hl
    rcases List.mem_append.1 hl with hl | hl
    · exact h.nm.2 l hl
    · rcases m2 l hl with rfl | rfl <;> decide
  · show ∀ l ∈ fillS C.schemas, _
    rw [e2]
    intro l hl
    rcases List.mem_append.1 hl with hl | hl
    · exact h.rl l hl
    · rcases m2 l hl with rfl | rfl
      · exact ⟨by decide, fun r hr => by rw [List.mem_singleton.1 hr]; exact rlX_f⟩
      · exact ⟨by decide, fun r hr => by rw [List.mem_singleton.1 hr]; exact rlY_f⟩
theorem fillC_bnd {n : Nat} {C : Cf} (hb : Bnd n C) : Bnd (n + 2) (fillC C) := by
  obtain ⟨T, e1, t1, m1⟩ := fillL_ext C.levels
  obtain ⟨U, e2, t2, m2⟩ := fillS_ext C.schemas
  have a1 := hb.lv
  have a2 := hb.sc
  refine ⟨?_, ?_, ?_⟩
  · show (fillL C.levels).length ≤ _; rw [e1, List.length_append]; omega
  · show (fillS C.schemas).length ≤ _; rw [e2, List.length_append]; omega
  · show ∀ l ∈ fillS C.schemas, _
    rw [e2]
    intro l hl
    rcases List.mem_append.1 hl with hl | hl
    · obtain ⟨h1, h2⟩ := hb.rl l hl
      exact ⟨by omega, fun r hr => by obtain ⟨c0, c1, c2, c3, c4⟩ := h2 r hr; exact ⟨by omega, by omega, by omega, by omega, by omega⟩⟩
    · rcases m2 l hl with rfl | rfl
      · refine ⟨by show 1 ≤ _; omega, fun r hr => ?_⟩
        rw [List.mem_singleton.1 hr]
        exact ⟨by show 0 ≤ _; omega, by show 1 ≤ _; omega, by show 1 ≤ _; omega, by show 1 ≤ _; omega, by show 1 ≤ _; omega⟩
      · refine ⟨by show 1 ≤ _; omega, fun r hr => ?_⟩
        rw [List.mem_singleton.1 hr]
        exact ⟨by show 1 ≤ _; omega, by show 0 ≤ _; omega, by show 1 ≤ _; omega, by show 1 ≤ _; omega, by show 1 ≤ _; omega⟩
theorem Bnd.mono {m n : Nat} {C : Cf} (h : Bnd m C) (k : m ≤ n) : Bnd n C :=
  ⟨Nat.le_trans h.lv k, Nat.le_trans h.sc k, fun s hs => by
    obtain ⟨h1, h2⟩ := h.rl s hs
    exact ⟨Nat.le_trans h1 k, fun r hr => by obtain ⟨c0, c1, c2, c3, c4⟩ := h2 r hr; exact ⟨by omega, by omega, by omega, by omega, by omega⟩⟩⟩
end Go.Proofs.YtlkoaldekmdcoaaGreatDoor
