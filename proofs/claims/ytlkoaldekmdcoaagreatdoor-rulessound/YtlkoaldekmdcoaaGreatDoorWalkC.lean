/-
  What 'Number' of the program answers. No condition but that a text has a length.
-/
import Derived.Test.YtlkoaldekmdcoaaGreatDoorWalkA
namespace Go.Proofs.YtlkoaldekmdcoaaGreatDoor
open Go.RowKit

/-- The number that digits are. -/
def valL (l : List UInt8) : Nat := l.foldl (fun n b => n * 10 + (b.toNat - 48)) 0
/-- That of the first k. -/
def valTo (s : ByteArray) (k : Nat) : Nat := valL (s.data.toList.take k)
theorem valTo_zero (s : ByteArray) : valTo s 0 = 0 := by unfold valTo; rw [List.take_zero]; rfl
theorem valTo_succ (s : ByteArray) (k : Nat) (h : k < s.size) : valTo s (k + 1) = valTo s k * 10 + (s[k].toNat - 48) := by
  unfold valTo valL
  rw [List.take_add_one, byte_at s k h, Option.toList_some, List.foldl_append]
  rfl
theorem valTo_all (s : ByteArray) : valTo s s.size = valL s.data.toList := by
  unfold valTo
  rw [List.take_of_length_le (by rw [Array.length_toList]; exact Nat.le_refl _)]
theorem valTo_lt (s : ByteArray) (hd : allB isDigit s = true) : ∀ k, k ≤ s.size → valTo s k < 10 ^ k
  | 0, _ => by rw [valTo_zero]; decide
  | k + 1, h => by
    have ih := valTo_lt s hd k (by omega)
    have := (allB_iff _ _).1 hd k (by omega)
    unfold isDigit at this
    have hb : s[k].toNat - 48 ≤ 9 := by simp at this; omega
    rw [valTo_succ s k (by omega), Nat.pow_succ]
    omega

/-- Is it a number? -/
def isNum (s : ByteArray) : Bool := !(decide (9 < s.size) || (!(allB isDigit s && !decide (s.size = 0)) || (if h : 1 < s.size then (s[0].toNat : Int) == 48 else false)))
/-- The number within bounds. -/
def numIn (s : ByteArray) (least most : Int) : Bool := isNum s && (decide (least ≤ (valL s.data.toList : Int)) && decide ((valL s.data.toList : Int) ≤ most))
def numOf (s : ByteArray) (least most : Int) : Int := if numIn s least most then (valL s.data.toList : Int) else 0


theorem isNum_parts {s : ByteArray} (h : isNum s = true) : s.size ≤ 9 ∧ allB isDigit s = true ∧ 1 ≤ s.size ∧ ∀ h1 : 1 < s.size, ((s[0].toNat : Int) == 48) = false := by
  unfold isNum at h
  simp only [Bool.not_eq_true', Bool.or_eq_false_iff, decide_eq_false_iff_not, Bool.not_eq_false', Bool.and_eq_true] at h
  obtain ⟨h1, ⟨h2, h3⟩, h4⟩ := h
  refine ⟨by omega, h2, by omega, fun hh => ?_⟩
  rw [dif_pos hh] at h4
  exact h4



end Go.Proofs.YtlkoaldekmdcoaaGreatDoor
