/-
  An id that is taken off a clock; where the dues of a slice lie; lists in order. Conditions: as each theorem says them.
-/
import Derived.Test.YthamaiibknmeeaaTrio
namespace Go.Proofs.Ythamaiibknmeeaa
open Go.RowKit Go.Lib Go.Sort Go.Maps

theorem has_one {M : Int × Int → Prop} {id : Int} (h : ∃ y, M y ∧ y.2 = id) : has M id = 1 := if_pos h
theorem has_none {M : Int × Int → Prop} {id : Int} (h : ¬ ∃ y, M y ∧ y.2 = id) : has M id = 0 := if_neg h
theorem has_le {w : World} {cb : Nat} {S : Nat → Prop} {t : Int} {M : Int × Int → Prop} {n : Nat} (h : Clk w cb S t M n) (id : Int) : has M id ≤ n := by
  by_cases c : ∃ y, M y ∧ y.2 = id
  · rw [has_one c]
    obtain ⟨y, hy, _⟩ := c
    rcases Nat.eq_zero_or_pos n with rfl | h0
    · exact absurd hy (h.empty y)
    · exact h0
  · rw [has_none c]; omega

theorem From.cancel {B : Nat} {w : World} {cb : Nat} {t : Int} {M : Int × Int → Prop} {n : Nat} (h : From B w cb t M n) (id : Int) (hid : -9223372036854775808 ≤ id ∧ id < 9223372036854775808) :
    Calls Try.prog 12 #[.pointer (some ⟨cb, 0, none⟩), .int .i64 id] w fun e w' => e = .returned (.int .i64 (if has M id = 1 then 0 else 6)) ∧ From B w' cb t (fun y => M y ∧ y.2 ≠ id) (n - has M id) ∧ Below B w w' := by
  obtain ⟨g0, S, g1, g2⟩ := h
  refine (cancel_any g1 id hid).mono ?_
  rintro e w' ⟨rfl, q1, q2⟩
  have b := q2.below g0 g2
  exact ⟨rfl, ⟨Nat.le_trans g0 b.size, S, q1, g2⟩, b⟩
theorem From.has_le {B : Nat} {w : World} {cb : Nat} {t : Int} {M : Int × Int → Prop} {n : Nat} (h : From B w cb t M n) (id : Int) : has M id ≤ n := by
  obtain ⟨_, S, g1, _⟩ := h
  exact Proofs.Ythamaiibknmeeaa.has_le g1 id

/-- Where one of the dues of a slice lies. -/
theorem DOwn.at {base : Nat} {w : World} {a : Option Addr} {n cap : Nat} {L : List (Int × Int)} (h : DOwn base w (.slice a n cap) L) {i : Nat} (hi : i < L.length) :
    ∃ g, a = some ⟨g, 0, none⟩ ∧ ∀ j, j < L.length → w.cell? ⟨g, j * 2, none⟩ = some (.int .i64 (L.getD j (0, 0)).2) ∧ w.cell? ⟨g, j * 2 + 1, none⟩ = some (.int .i64 (L.getD j (0, 0)).1) := by
  rcases id h.2 with ⟨e, e'⟩ | ⟨g, c, cur, e, _⟩
  · omega
  · simp at e
    obtain ⟨rfl, rfl, rfl⟩ := e
    refine ⟨g, rfl, fun j hj => ?_⟩
    obtain ⟨e1, e2⟩ := dcl_at L j hj
    have h' : w.ownsRow base 43 2 (.slice (some ⟨g, 0, none⟩) L.length cap) L.length (dcl L) := h
    rw [h'.cellAt _ (by omega), h'.cellAt _ (by omega)]
    exact ⟨e1, e2⟩

theorem sorted_next {L : List (Int × Int)} (h : L.Pairwise lt) {i : Nat} (hi : i + 1 < L.length) : lt (L.getD i (0, 0)) (L.getD (i + 1) (0, 0)) := by
  have := List.pairwise_iff_getElem.1 h i (i + 1) (by omega) hi (by omega)
  rw [List.getD_eq_getElem?_getD, List.getD_eq_getElem?_getD, List.getElem?_eq_getElem hi, List.getElem?_eq_getElem (by omega)]
  exact this
end Go.Proofs.Ythamaiibknmeeaa
