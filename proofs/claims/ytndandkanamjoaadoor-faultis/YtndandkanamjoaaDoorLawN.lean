/-
  The statements' fixed answer ('awake') is met; what 'FaultNil' of the statements answers: true, for all arguments. Condition: errorType holds what its text lays.
-/
import Derived.Test.YtndandkanamjoaaDoorWalkG
namespace Go.Proofs.YtndandkanamjoaaDoor
open Go.RowKit Go.Extern.Stop Go.Stop Go.Extern

theorem HT {w w' : World} (h : Hd (ET w)) (b : Below w.heap.size w w') : Hd (ET w') := ⟨h.out.stays b⟩
theorem HB {w w1 w2 : World} (h : Hd (Below w.heap.size w w1)) (b : Below w1.heap.size w1 w2) : Hd (Below w.heap.size w w2) := ⟨h.out.trans (b.mono h.out.size)⟩

def levelA : ByteArray := ⟨#[108, 101, 118, 101, 108, 32, 97]⟩

set_option maxHeartbeats 4000000 in
theorem awake_ok (w : World) (he : ET w) : Calls Tryd.prog 8 #[] w fun e w' => e = .returned (.bool true) ∧ Below w.heap.size w w' := by
  have c18 : ∀ w, Calls Tryd.prog 18 #[.string ⟨#[108, 101, 118, 101, 108, 32, 97]⟩, .iface 31 (.int .i64 8)] w fun e w' => e = .returned (.iface 44 (.agg #[.int .i64 0, .string ⟨#[108, 101, 118, 101, 108, 32, 97]⟩, .iface 31 (.int .i64 8)])) ∧ w' = w :=
    fun w => of_ok levelA (.inl 8) [] w 31 _ rfl
  have c17 : ∀ w, Calls Tryd.prog 17 #[.int .i64 3, .iface 44 (.agg #[.int .i64 0, .string ⟨#[108, 101, 118, 101, 108, 32, 97]⟩, .iface 31 (.int .i64 8)])] w fun e w' => e = .returned (.iface 44 (.agg #[.int .i64 3, .string ⟨#[]⟩, .iface 44 (.agg #[.int .i64 0, .string ⟨#[108, 101, 118, 101, 108, 32, 97]⟩, .iface 31 (.int .i64 8)])])) ∧ w' = w :=
    fun w => at_ok 3 (.inl 8) [⟨0, levelA⟩] w 44 _ rfl
  have c10 : ∀ w, ET w → Calls Tryd.prog 10 #[.iface 44 (.agg #[.int .i64 3, .string ⟨#[]⟩, .iface 44 (.agg #[.int .i64 0, .string ⟨#[108, 101, 118, 101, 108, 32, 97]⟩, .iface 31 (.int .i64 8)])])] w fun e w' => e = .returned (.int .i64 8) ∧ Below w.heap.size w w' :=
    fun w h => code_ok (.inl 8) [⟨3, ⟨#[]⟩⟩, ⟨0, levelA⟩] w h
  have c12 : ∀ w, ET w → Calls Tryd.prog 12 #[.iface 44 (.agg #[.int .i64 3, .string ⟨#[]⟩, .iface 44 (.agg #[.int .i64 0, .string ⟨#[108, 101, 118, 101, 108, 32, 97]⟩, .iface 31 (.int .i64 8)])])] w fun e w' => e = .returned (.int .i64 3) ∧ Below w.heap.size w w' :=
    fun w h => line_ok (.inl 8) [⟨3, ⟨#[]⟩⟩, ⟨0, levelA⟩] w h
  have c14 : ∀ w, ET w → Calls Tryd.prog 14 #[.iface 44 (.agg #[.int .i64 3, .string ⟨#[]⟩, .iface 44 (.agg #[.int .i64 0, .string ⟨#[108, 101, 118, 101, 108, 32, 97]⟩, .iface 31 (.int .i64 8)])])] w fun e w' => e = .returned (.string ⟨#[108, 101, 118, 101, 108, 32, 97]⟩) ∧ Below w.heap.size w w' :=
    fun w h => by
      have := what_ok (.inl 8) [⟨3, ⟨#[]⟩⟩, ⟨0, levelA⟩] w h
      rw [near_no (by decide +kernel), near_yes (by decide +kernel)] at this
      exact this
  have E0 : Hd (ET w) := ⟨he⟩
  have B0 : Hd (Below w.heap.size w w) := ⟨Below.refl _ _⟩
  clear he
  go_enter Tryd.func8, Tryd.ntmps8
  go_wp2_with (first
    | (go_at_call 18; refine (c18 _).mono ?_; rintro e w' ⟨rfl, hw⟩; obtain rfl := hw.symm)
    | (go_at_call 17; refine (c17 _).mono ?_; rintro e w' ⟨rfl, hw⟩; obtain rfl := hw.symm)
    | (go_at_call 10; refine (c10 _ E0.out).mono ?_; rintro e w1 ⟨rfl, b1⟩; have E1 := HT E0 b1; have B1 := HB B0 b1; clear b1)
    | (go_at_call 12; refine (c12 _ E1.out).mono ?_; rintro e w2 ⟨rfl, b2⟩; have E2 := HT E1 b2; have B2 := HB B1 b2; clear b2)
    | (go_at_call 14; refine (c14 _ E2.out).mono ?_; rintro e w3 ⟨rfl, b3⟩; have B3 := HB B2 b3; clear b3))
  go_ret
  exact ⟨rfl, B3.out⟩

set_option maxHeartbeats 4000000 in
theorem nil_all (L : Int) (S : ByteArray) (e0 : Int) (w : World) (he : ET w) :
    Calls Tryd.prog 5 #[.int .i64 L, .string S, .int .i64 e0] w fun e w' => e = .returned (.bool true) ∧ Below w.heap.size w w' := by
  have c10 : ∀ w, ET w → Calls Tryd.prog 10 #[.nilIface] w fun e w' => e = .returned (.int .i64 0) ∧ Below w.heap.size w w' := fun w h => code_ok (.inr (.inr ())) [] w h
  have c12 : ∀ w, ET w → Calls Tryd.prog 12 #[.nilIface] w fun e w' => e = .returned (.int .i64 0) ∧ Below w.heap.size w w' := fun w h => line_ok (.inr (.inr ())) [] w h
  have c14 : ∀ w, ET w → Calls Tryd.prog 14 #[.nilIface] w fun e w' => e = .returned (.string ⟨#[]⟩) ∧ Below w.heap.size w w' := fun w h => what_ok (.inr (.inr ())) [] w h
  have c16 : ∀ w, Calls Tryd.prog 16 #[.nilIface, .int .i64 e0] w fun e w' => e = .returned (.bool false) ∧ Below w.heap.size w w' := fun w => isN_ok (.inr (.inr ())) [] e0 w
  have E0 : Hd (ET w) := ⟨he⟩
  have B0 : Hd (Below w.heap.size w w) := ⟨Below.refl _ _⟩
  clear he
  go_enter Tryd.func5, Tryd.ntmps5
  go_wp2_with (first
    | (go_at_call 8; refine (awake_ok _ E0.out).mono ?_; rintro e w1 ⟨rfl, b1⟩; have E1 := HT E0 b1; have B1 := HB B0 b1; clear b1)
    | (go_at_call 17; refine (at_nil L _).mono ?_; rintro e w' ⟨rfl, hw⟩; obtain rfl := hw.symm)
    | (go_at_call 18; refine (of_nil S _).mono ?_; rintro e w' ⟨rfl, hw⟩; obtain rfl := hw.symm)
    | (go_at_call 10; refine (c10 _ E1.out).mono ?_; rintro e w2 ⟨rfl, b2⟩; have E2 := HT E1 b2; have B2 := HB B1 b2; clear b2)
    | (go_at_call 12; refine (c12 _ E2.out).mono ?_; rintro e w3 ⟨rfl, b3⟩; have E3 := HT E2 b3; have B3 := HB B2 b3; clear b3)
    | (go_at_call 14; refine (c14 _ E3.out).mono ?_; rintro e w4 ⟨rfl, b4⟩; have B4 := HB B3 b4; clear b4)
    | (go_at_call 16; refine (c16 _).mono ?_; rintro e w5 ⟨rfl, b5⟩; have B5 := HB B4 b5; clear b5))
  go_ret
  exact ⟨rfl, B5.out⟩

end Go.Proofs.YtndandkanamjoaaDoor
