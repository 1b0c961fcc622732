/-
  What 'capped', 'In', 'Add', 'Sub' of the program and of the reference answer, for every two words. Conditions: the arguments are words of 64 bits.
-/
import Derived.Test.YtjpjifoanadbdaaRows
import Derived.WalkKit
import Derived.WalkSpells
import Derived.WalkLawsBesides
namespace Go.Proofs.Ytjpjifoanadbdaa
open Go.RowKit

def Word (x : Int) : Prop := 0 ≤ x ∧ x < 18446744073709551616
def capI (a : Int) : Int := if a ≤ 4611686018427387904 then a else 4611686018427387904
def addI (a b : Int) : Int := capI (capI a + capI b)
def subI (a b : Int) : Int := if capI a ≤ capI b then 0 else capI a - capI b

theorem capI_lo {a : Int} (h : Word a) : 0 ≤ capI a := by
  obtain ⟨h1, h2⟩ := h; unfold capI; split <;> omega
theorem capI_hi {a : Int} (_h : Word a) : capI a ≤ 4611686018427387904 := by
  unfold capI; split <;> omega
theorem capI_word {a : Int} (h : Word a) : Word (capI a) := ⟨capI_lo h, by have := capI_hi h; omega⟩

set_option maxHeartbeats 400000 in
theorem capped_any (a : Int) (w : World) (h : Word a) :
    Calls Try.prog 20 #[.int .u64 a] w fun e w' => e = .returned (.int .u64 (capI a)) ∧ w' = w := by
  obtain ⟨h1, h2⟩ := h
  unfold capI
  go_enter Try.func20, Try.ntmps20
  go_wp2
  all_goals (go_ret; exact ⟨rfl, rfl⟩)

set_option maxHeartbeats 400000 in
theorem in_any (a : Int) (w : World) (h : Word a) :
    Calls Try.prog 21 #[.int .u64 a] w fun e w' => e = .returned (.int .u64 (capI a)) ∧ w' = w := by
  obtain ⟨h1, h2⟩ := h
  unfold capI
  go_enter Try.func21, Try.ntmps21
  go_wp2
  all_goals (go_ret; exact ⟨rfl, rfl⟩)

set_option maxHeartbeats 400000 in
theorem add_any (a b : Int) (w : World) (ha : Word a) (hb : Word b) :
    Calls Try.prog 10 #[.int .u64 a, .int .u64 b] w fun e w' => e = .returned (.int .u64 (addI a b)) ∧ w' = w := by
  unfold addI
  have a1 := capI_lo ha; have a2 := capI_hi ha
  have b1 := capI_lo hb; have b2 := capI_hi hb
  have hs : Word (capI a + capI b) := ⟨by omega, by omega⟩
  go_enter Try.func10, Try.ntmps10
  go_wp2_with (go_at_call 20; refine (capped_any _ _ (by assumption)).mono ?_; rintro e w' ⟨rfl, rfl⟩)
  go_ret; exact ⟨rfl, rfl⟩

set_option maxHeartbeats 400000 in
theorem refAdd_any (a b : Int) (w : World) (ha : Word a) (hb : Word b) :
    Calls Try.prog 11 #[.int .u64 a, .int .u64 b] w fun e w' => e = .returned (.int .u64 (addI a b)) ∧ w' = w := by
  unfold addI
  have a1 := capI_lo ha; have a2 := capI_hi ha
  have b1 := capI_lo hb; have b2 := capI_hi hb
  have hs : Word (capI a + capI b) := ⟨by omega, by omega⟩
  go_enter Try.func11, Try.ntmps11
  go_wp2_with (go_at_call 21; refine (in_any _ _ (by assumption)).mono ?_; rintro e w' ⟨rfl, rfl⟩)
  go_ret; exact ⟨rfl, rfl⟩

set_option maxHeartbeats 400000 in
theorem sub_any (a b : Int) (w : World) (ha : Word a) (hb : Word b) :
    Calls Try.prog 12 #[.int .u64 a, .int .u64 b] w fun e w' => e = .returned (.int .u64 (subI a b)) ∧ w' = w := by
  unfold subI
  have a1 := capI_lo ha; have a2 := capI_hi ha
  have b1 := capI_lo hb; have b2 := capI_hi hb
  by_cases hc : capI a ≤ capI b
  · go_enter Try.func12, Try.ntmps12
    go_wp2_with (go_at_call 20; refine (capped_any _ _ (by assumption)).mono ?_; rintro e w' ⟨rfl, rfl⟩)
    go_ret; exact ⟨rfl, rfl⟩
  · go_enter Try.func12, Try.ntmps12
    go_wp2_with (go_at_call 20; refine (capped_any _ _ (by assumption)).mono ?_; rintro e w' ⟨rfl, rfl⟩)
    go_ret; exact ⟨rfl, rfl⟩

set_option maxHeartbeats 400000 in
theorem refSub_any (a b : Int) (w : World) (ha : Word a) (hb : Word b) :
    Calls Try.prog 13 #[.int .u64 a, .int .u64 b] w fun e w' => e = .returned (.int .u64 (subI a b)) ∧ w' = w := by
  unfold subI
  have a1 := capI_lo ha; have a2 := capI_hi ha
  have b1 := capI_lo hb; have b2 := capI_hi hb
  by_cases hc : capI a ≤ capI b
  · go_enter Try.func13, Try.ntmps13
    go_wp2_with (go_at_call 21; refine (in_any _ _ (by assumption)).mono ?_; rintro e w' ⟨rfl, rfl⟩)
    all_goals (go_ret; exact ⟨rfl, rfl⟩)
  · go_enter Try.func13, Try.ntmps13
    go_wp2_with (go_at_call 21; refine (in_any _ _ (by assumption)).mono ?_; rintro e w' ⟨rfl, rfl⟩)
    all_goals (go_ret; exact ⟨rfl, rfl⟩)
end Go.Proofs.Ytjpjifoanadbdaa
