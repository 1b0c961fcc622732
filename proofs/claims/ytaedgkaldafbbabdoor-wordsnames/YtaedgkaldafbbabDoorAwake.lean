/-
  The fixed answers of the statements ('awake') are met. No condition.
-/
import Derived.Test.YtaedgkaldafbbabDoorWalkC
import Derived.Test.YtaedgkaldafbbabDoorWalkD
import Derived.Test.YtaedgkaldafbbabDoorWalkE
namespace Go.Proofs.YtaedgkaldafbbabDoor
open Go.RowKit Go.Lib

theorem isWord_eq (s : ByteArray) : isWord s = (decide (s.size ≤ 64) && (allB isWordB s && (!decide (s.size = 0) && !(s.data.toList == [45])))) := by
  unfold isWord
  rw [ByteArray.toList_eq]

theorem good_ab : good (cutB 44 ⟨#[97, 44, 98]⟩) = true := by
  apply good_yes
  rw [show cutB 44 ⟨#[97, 44, 98]⟩ = [⟨#[97]⟩, ⟨#[98]⟩] from rfl]
  refine ⟨by decide, fun i hi => ?_⟩
  rcases (by simp at hi; omega : i = 0 ∨ i = 1) with rfl | rfl
  · exact ⟨by rw [isWord_eq]; decide, fun j hj => absurd hj (Nat.not_lt_zero _)⟩
  · refine ⟨by rw [isWord_eq]; decide, fun j hj => ?_⟩
    obtain rfl : j = 0 := by omega
    decide

theorem awake_any (w : World) : Calls Tryd.prog 5 #[] w fun e w' => e = .returned (.bool true) ∧ Below w.heap.size w w' := by
  have N := number_ok ⟨#[52, 50]⟩ 0 99 (by decide)
  rw [show numOf ⟨#[52, 50]⟩ 0 99 = 42 from by decide, show numIn ⟨#[52, 50]⟩ 0 99 = true from by decide] at N
  have L := list_ok ⟨#[97, 44, 98]⟩
  have l1 : listOk ⟨#[97, 44, 98]⟩ = true := by unfold listOk; rw [if_neg (by decide), if_neg (by decide)]; exact good_ab
  have l2 : (listOf ⟨#[97, 44, 98]⟩).length = 2 := by unfold listOf; rw [if_neg (by decide), if_neg (by decide), if_pos good_ab]; rfl
  have A := name_ok ⟨#[97, 49]⟩ (by decide)
  rw [show isName ⟨#[97, 49]⟩ = true from by decide] at A
  have B := word_ok ⟨#[65, 47, 98]⟩ (by decide)
  rw [show isWord ⟨#[65, 47, 98]⟩ = true from by rw [isWord_eq]; decide] at B
  have H := hex_ok 255 (by decide)
  rw [show hexB 255 = ⟨#[48, 48, 48, 48, 48, 48, 48, 48, 48, 48, 48, 48, 48, 48, 102, 102]⟩ from by decide] at H
  have W := words_ok ⟨#[97, 32, 98]⟩
  have w1 : (wordsB ⟨#[97, 32, 98]⟩).length = 2 := by decide
  have I := lines_ok ⟨#[97]⟩
  have i1 : (linesB ⟨#[97]⟩).length = 1 := by decide
  rw [l1, l2] at L
  rw [w1] at W
  rw [i1] at I
  go_enter Tryd.func5, Tryd.ntmps5
  go_wp2_with (first
    | (go_at_call 10; refine (N _).mono ?_; rintro e w' ⟨rfl, hw⟩; obtain rfl := hw.symm)
    | (go_at_call 7; refine (L _ (by decide)).mono ?_; rintro e w2 ⟨a, c, rfl, _, _, hb2⟩)
    | (go_at_call 8; refine (A _).mono ?_; rintro e w' ⟨rfl, hw⟩; obtain rfl := hw.symm)
    | (go_at_call 9; refine (B _).mono ?_; rintro e w' ⟨rfl, hw⟩; obtain rfl := hw.symm)
    | (go_at_call 11; refine (H _).mono ?_; rintro e w3 ⟨rfl, hb3⟩)
    | (go_at_call 12; refine (W _ (by decide)).mono ?_; rintro e w4 ⟨a4, c4, rfl, _, hb4⟩)
    | (go_at_call 13; refine (I _ (by decide)).mono ?_; rintro e w5 ⟨a5, c5, rfl, _, hb5⟩))
  go_ret
  have q3 : Below w.heap.size w w3 := hb2.trans (hb3.mono hb2.size)
  have q4 : Below w.heap.size w w4 := q3.trans (hb4.mono q3.size)
  exact ⟨rfl, q4.trans (hb5.mono q4.size)⟩

end Go.Proofs.YtaedgkaldafbbabDoor
