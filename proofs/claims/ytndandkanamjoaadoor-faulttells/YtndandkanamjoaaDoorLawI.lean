/-
  What 'FaultIs' of the statements answers: true, for all arguments. Conditions: the wraps lie in memory; errorType holds what its text lays.
-/
import Derived.Test.YtndandkanamjoaaDoorMade
namespace Go.Proofs.YtndandkanamjoaaDoor
open Go.RowKit Go.Extern.Stop Go.Stop Go.Extern

/-- The error that a chain is, under a name. -/
structure Is (q : Value) (B : Base) (Q : List Lk) : Prop where
  eq : q = val B Q.reverse
theorem made_q (code : Int) (a : Option Addr) (n cap : Nat) (f : Nat → Wp) (w : World) (hR : RowW w a n f) :
    Calls Tryd.prog 9 #[.int .i64 code, .slice a n cap] w fun e w' => ∃ (q : Value) (B : Base) (a' : Option Addr) (c : Nat), e = .returned (.tuple #[q, .agg #[.int .i64 code, .slice a' (lks f (min n 60)).length c]])
      ∧ Hd (Is q B (lks f (min n 60))) ∧ Hd (OwnK w.heap.size w' (.slice a' (lks f (min n 60)).length c) (lks f (min n 60))) ∧ Below w.heap.size w w' ∧ Hd ((0 ≤ code → B = (.inl code)) ∧ (code < 0 → ∃ v, B = (.inr (.inl v)))) := by
  refine (made_ok code a n cap f w hR).mono ?_
  rintro e w' ⟨B, a', c, rfl, ow, b, h1, h2⟩
  exact ⟨_, B, a', c, rfl, ⟨⟨rfl⟩⟩, ⟨ow⟩, b, ⟨h1, h2⟩⟩
theorem is_q {q : Value} {B : Base} {Q : List Lk} (h : Hd (Is q B Q)) (e0 : Int) (r : Bool) (hr : B.isE e0 = r) (w : World) :
    Calls Tryd.prog 16 #[q, .int .i64 e0] w fun e w' => e = .returned (.bool r) ∧ Below w.heap.size w w' := by
  rw [h.out.eq, ← hr]; exact isN_ok B _ e0 w

set_option maxHeartbeats 4000000 in
set_option maxRecDepth 20000 in
theorem is_all (code other : Int) (a : Option Addr) (n cap : Nat) (f : Nat → Wp) (w : World) (he : ET w) (hR : RowW w a n f) :
    Calls Tryd.prog 4 #[.int .i64 code, .int .i64 other, .slice a n cap] w fun e w' => e = .returned (.bool true) ∧ Below w.heap.size w w' := by
  have E0 : Hd (ET w) := ⟨he⟩
  have R0 : Hd (RowW w a n f) := ⟨hR⟩
  have B0 : Hd (Below w.heap.size w w) := ⟨Below.refl _ _⟩
  clear he hR
  by_cases hc : code < 0
  · go_enter Tryd.func4, Tryd.ntmps4
    go_wp2_with (first
      | (go_at_call 8; refine (awake_ok _ E0.out).mono ?_; rintro e w1 ⟨rfl, b1⟩; have R1 : Hd (RowW w1 a n f) := ⟨R0.out.stays b1⟩; have B1 := HB B0 b1; clear b1)
      | (go_at_call 9; refine (made_q code a n cap f _ R1.out).mono ?_; rintro e w2 ⟨q, B, a', c, rfl, HQ, ow, b2, hB⟩; have B2 := HB B1 b2; clear b2)
      | (go_at_call 16; refine (is_q HQ other false (by obtain ⟨v, rfl⟩ := hB.out.2 hc; rfl) _).mono ?_; rintro e w3 ⟨rfl, b3⟩; have B3 : Hd (Below w.heap.size w w3) := ⟨B2.out.trans ((Below.alloc (Below.refl _ _) B2.out.size _).trans (b3.mono (by have := B2.out.size; simp; omega)))⟩; clear b3))
    go_ret
    exact ⟨rfl, B3.out⟩
  · have k1 : (code == code) = true := by simp
    obtain ⟨r, hr⟩ : ∃ r, r = (code == other) := ⟨_, rfl⟩
    have HR : Hd (r = (code == other)) := ⟨hr⟩
    have hr' := hr.symm
    clear hr
    cases r with
    | true =>
      go_enter Tryd.func4, Tryd.ntmps4
      go_wp2_with (first
        | (go_at_call 8; refine (awake_ok _ E0.out).mono ?_; rintro e w1 ⟨rfl, b1⟩; have R1 : Hd (RowW w1 a n f) := ⟨R0.out.stays b1⟩; have B1 := HB B0 b1; clear b1)
        | (go_at_call 9; refine (made_q code a n cap f _ R1.out).mono ?_; rintro e w2 ⟨q, B, a', c, rfl, HQ, ow, b2, hB⟩; have B2 := HB B1 b2; clear b2)
        | (go_at_call 16; refine (is_q HQ code true (by obtain rfl := hB.out.1 (by omega); simp [Base.isE]) _).mono ?_; rintro e w3 ⟨rfl, b3⟩; have B3 : Hd (Below w.heap.size w w3) := ⟨B2.out.trans ((Below.alloc (Below.refl _ _) B2.out.size _).trans (b3.mono (by have := B2.out.size; simp; omega)))⟩; clear b3)
        | (go_at_call 16; refine (is_q HQ other true (by obtain rfl := hB.out.1 (by omega); exact HR.out.symm) _).mono ?_; rintro e w4 ⟨rfl, b4⟩; have B4 := HB B3 b4; clear b4))
      go_ret
      exact ⟨rfl, B4.out⟩
    | false =>
      go_enter Tryd.func4, Tryd.ntmps4
      go_wp2_with (first
        | (go_at_call 8; refine (awake_ok _ E0.out).mono ?_; rintro e w1 ⟨rfl, b1⟩; have R1 : Hd (RowW w1 a n f) := ⟨R0.out.stays b1⟩; have B1 := HB B0 b1; clear b1)
        | (go_at_call 9; refine (made_q code a n cap f _ R1.out).mono ?_; rintro e w2 ⟨q, B, a', c, rfl, HQ, ow, b2, hB⟩; have B2 := HB B1 b2; clear b2)
        | (go_at_call 16; refine (is_q HQ code true (by obtain rfl := hB.out.1 (by omega); simp [Base.isE]) _).mono ?_; rintro e w3 ⟨rfl, b3⟩; have B3 : Hd (Below w.heap.size w w3) := ⟨B2.out.trans ((Below.alloc (Below.refl _ _) B2.out.size _).trans (b3.mono (by have := B2.out.size; simp; omega)))⟩; clear b3)
        | (go_at_call 16; refine (is_q HQ other false (by obtain rfl := hB.out.1 (by omega); exact HR.out.symm) _).mono ?_; rintro e w4 ⟨rfl, b4⟩; have B4 := HB B3 b4; clear b4))
      go_ret
      exact ⟨rfl, B4.out⟩

end Go.Proofs.YtndandkanamjoaaDoor
