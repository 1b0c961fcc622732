/-
  What 'cmp.Compare', 'cmp.Or', 'order' and 'goesFirst' of the program answer: which of two items goes first. No condition.
-/
import Derived.Test.YthamaiibknmeeaaRows
import Derived.WalkKit
import Derived.WalkSpells
import Derived.WalkLawsBesides
import Derived.ProofKit
import Derived.OpenShut
import Derived.Below
import Derived.BigQuiet
import Derived.BigRegion
import Derived.Deep.QuietTactic
import Derived.Deep.RegionWith
import Derived.Deep.RegionLaw
import Derived.StillTailTactics
import Derived.Sort.Grow
namespace Go.Proofs.Ythamaiibknmeeaa
open Go.RowKit Go.Lib Go.Sort

/-- What one number is to another one. -/
def cmpI (a b : Int) : Int := if a < b then -1 else if b < a then 1 else 0
/-- What one item is to another one: below 0, it goes first. -/
def ordI (x y : Int × Int) : Int := if x.1 < y.1 then -1 else if y.1 < x.1 then 1 else cmpI x.2 y.2
/-- It goes first. -/
def lt (x y : Int × Int) : Prop := x.1 < y.1 ∨ x.1 = y.1 ∧ x.2 < y.2

theorem lt_iff (x y : Int × Int) : lt x y ↔ ordI x y < 0 := by
  unfold lt ordI cmpI
  split <;> (try split) <;> (try split) <;> (try split) <;> constructor <;> intro h <;> omega
def ltDec (x y : Int × Int) : Decidable (lt x y) := inferInstanceAs (Decidable (_ ∨ _))
theorem ltYes {x y : Int × Int} (h : lt x y) : @decide (lt x y) (ltDec x y) = true := @decide_eq_true _ (ltDec x y) h
theorem ltNo {x y : Int × Int} (h : ¬ lt x y) : @decide (lt x y) (ltDec x y) = false := @decide_eq_false _ (ltDec x y) h
theorem ltYes_of {x y : Int × Int} (h : @decide (lt x y) (ltDec x y) = true) : lt x y := @of_decide_eq_true _ (ltDec x y) h
theorem ltNo_of {x y : Int × Int} (h : @decide (lt x y) (ltDec x y) = false) : ¬ lt x y := @of_decide_eq_false _ (ltDec x y) h

theorem compareU_any (a b : Int) (w : World) : Calls Try.prog 41 #[.int .u64 a, .int .u64 b] w fun e w' => e = .returned (.int .i64 (cmpI a b)) ∧ w' = w := by
  have N : ∀ (c : Int) (w : World), Calls Try.prog 43 #[.int .u64 c] w fun e w' => e = .returned (.bool false) ∧ w' = w := by
    intro c w
    go_enter Try.func43, Try.ntmps43
    go_wp2
    go_ret; exact ⟨rfl, rfl⟩
  by_cases h1 : a < b
  · have e : cmpI a b = -1 := by unfold cmpI; rw [if_pos h1]
    rw [e]; clear e
    go_enter Try.func41, Try.ntmps41
    go_wp2_with (go_at_call 43; refine (N _ _).mono ?_; rintro e w' ⟨rfl, hw⟩; obtain rfl := hw.symm)
    go_ret; exact ⟨rfl, rfl⟩
  · by_cases h2 : b < a
    · have e : cmpI a b = 1 := by unfold cmpI; rw [if_neg h1, if_pos h2]
      rw [e]; clear e
      go_enter Try.func41, Try.ntmps41
      go_wp2_with (go_at_call 43; refine (N _ _).mono ?_; rintro e w' ⟨rfl, hw⟩; obtain rfl := hw.symm)
      go_ret; exact ⟨rfl, rfl⟩
    · have e : cmpI a b = 0 := by unfold cmpI; rw [if_neg h1, if_neg h2]
      rw [e]; clear e
      go_enter Try.func41, Try.ntmps41
      go_wp2_with (go_at_call 43; refine (N _ _).mono ?_; rintro e w' ⟨rfl, hw⟩; obtain rfl := hw.symm)
      go_ret; exact ⟨rfl, rfl⟩

theorem compareI_any (a b : Int) (w : World) : Calls Try.prog 42 #[.int .i64 a, .int .i64 b] w fun e w' => e = .returned (.int .i64 (cmpI a b)) ∧ w' = w := by
  have N : ∀ (c : Int) (w : World), Calls Try.prog 44 #[.int .i64 c] w fun e w' => e = .returned (.bool false) ∧ w' = w := by
    intro c w
    go_enter Try.func44, Try.ntmps44
    go_wp2
    go_ret; exact ⟨rfl, rfl⟩
  by_cases h1 : a < b
  · have e : cmpI a b = -1 := by unfold cmpI; rw [if_pos h1]
    rw [e]; clear e
    go_enter Try.func42, Try.ntmps42
    go_wp2_with (go_at_call 44; refine (N _ _).mono ?_; rintro e w' ⟨rfl, hw⟩; obtain rfl := hw.symm)
    go_ret; exact ⟨rfl, rfl⟩
  · by_cases h2 : b < a
    · have e : cmpI a b = 1 := by unfold cmpI; rw [if_neg h1, if_pos h2]
      rw [e]; clear e
      go_enter Try.func42, Try.ntmps42
      go_wp2_with (go_at_call 44; refine (N _ _).mono ?_; rintro e w' ⟨rfl, hw⟩; obtain rfl := hw.symm)
      go_ret; exact ⟨rfl, rfl⟩
    · have e : cmpI a b = 0 := by unfold cmpI; rw [if_neg h1, if_neg h2]
      rw [e]; clear e
      go_enter Try.func42, Try.ntmps42
      go_wp2_with (go_at_call 44; refine (N _ _).mono ?_; rintro e w' ⟨rfl, hw⟩; obtain rfl := hw.symm)
      go_ret; exact ⟨rfl, rfl⟩

/-- The first that is not 0. -/
def orI (p q : Int) : Int := if p = 0 then q else p

theorem or_any (p q : Int) (g : Nat) (w : World) (h0 : w.cell? ⟨g, 0, none⟩ = some (.int .i64 p)) (h1 : w.cell? ⟨g, 1, none⟩ = some (.int .i64 q)) :
    Calls Try.prog 40 #[.slice (some ⟨g, 0, none⟩) 2 2] w fun e w' => e = .returned (.int .i64 (orI p q)) ∧ w' = w := by
  by_cases c : p = 0
  · subst c
    have e : orI 0 q = q := if_pos rfl
    rw [e]; clear e
    by_cases c2 : q = 0
    · subst c2
      go_enter Try.func40, Try.ntmps40
      go_wp2
      go_loop [8] (fun i => ∃ k : Nat, k ≤ 2 ∧ i = .int .i64 k) (fun i => 2 - (intOf i).toNat)
      case atStart => exact ⟨0, by omega, rfl⟩
      case round =>
        obtain ⟨k, hk, rfl⟩ := hrel
        match k, hk with
        | 0, _ =>
          go_wp2
          go_round
          case rel => exact ⟨1, by omega, by go_num⟩
          case measure => simp [intOf]
        | 1, _ =>
          go_wp2
          go_round
          case rel => exact ⟨2, by omega, by go_num⟩
          case measure => simp [intOf]
        | 2, _ =>
          go_wp2
          go_ret; exact ⟨rfl, rfl⟩
    · go_enter Try.func40, Try.ntmps40
      go_wp2
      go_loop [8] (fun i => ∃ k : Nat, k ≤ 1 ∧ i = .int .i64 k) (fun i => 2 - (intOf i).toNat)
      case atStart => exact ⟨0, by omega, rfl⟩
      case round =>
        obtain ⟨k, hk, rfl⟩ := hrel
        match k, hk with
        | 0, _ =>
          go_wp2
          go_round
          case rel => exact ⟨1, by omega, by go_num⟩
          case measure => simp [intOf]
        | 1, _ =>
          go_wp2
          go_ret; exact ⟨rfl, rfl⟩
  · have e : orI p q = p := if_neg c
    rw [e]; clear e
    go_enter Try.func40, Try.ntmps40
    go_wp2
    go_loop [8] (fun i => i = .int .i64 0) (fun _ => 0)
    case atStart => rfl
    case round =>
      subst hrel
      go_wp2
      go_ret; exact ⟨rfl, rfl⟩

theorem ord_or (x y : Int × Int) : orI (cmpI x.1 y.1) (cmpI x.2 y.2) = ordI x y := by
  unfold orI ordI cmpI
  split <;> (try split) <;> (try split) <;> (try split) <;> simp_all

/-- An item, as a value. -/
def vI (x : Int × Int) : Value := .agg #[.int .u64 x.1, .int .i64 x.2]

end Go.Proofs.Ythamaiibknmeeaa
