/-
  What 'FaultTells' of the statements answers: true: what it calls, under names. Conditions: the wraps lie in memory; errorType and the library's table of powers hold what their text lays; the texts are not beyond the reach.
-/
import Derived.Test.YtndandkanamjoaaDoorTellA
namespace Go.Proofs.YtndandkanamjoaaDoor
open Go.RowKit Go.Lib

/-- The numbers' bounds and the text's. -/
structure Bd (N LL : Int) (WW : ByteArray) : Prop where
  n0 : 0 ≤ N
  n1 : N ≤ 9223372036854775807
  l1 : LL ≤ 9223372036854775807
  sW : WW.size ≤ 140737488351232
theorem is_more {q : Value} {B : Base} {Q : List Lk} (h : Hd (Is q B Q)) (L0 : Int) (S0 : ByteArray) : Hd (Is (.iface 44 (.agg #[.int .i64 L0, .string S0, q])) B (Q ++ [⟨L0, S0⟩])) :=
  ⟨⟨by rw [h.out.eq, List.reverse_append]; rfl⟩⟩
theorem error_q {q : Value} {B : Base} {Q : List Lk} {code N LL L0 : Int} {S0 WW X : ByteArray} (h : Hd (Is q B Q)) (hB : Hd ((0 ≤ code → B = (.inl code)) ∧ (code < 0 → ∃ v, B = (.inr (.inl v))))) (hN : Hd (N = numberOf code))
    (hL : Hd (LL = (near (fun x _ => x != 0) (Q ++ [(⟨L0, S0⟩ : Lk)]).reverse).line)) (hW : Hd (WW = (near (fun _ y => !y.toList.isEmpty) (Q ++ [(⟨L0, S0⟩ : Lk)]).reverse).what)) (hX : Hd (X = tell N LL WW)) (hb : Hd (Bd N LL WW)) (w : World) (he : ET w) (hT : Tab w) :
    Calls Tryd.prog 21 #[.agg #[.int .i64 L0, .string S0, q]] w fun e w' => e = .returned (.string X) ∧ Below w.heap.size w w' := by
  have H := is_more h L0 S0
  rw [hX.out]
  exact error_ok L0 N LL S0 WW q w he hT (fun w hw => code_q H hB hN w hw) (fun w hw => line_q H hL w hw) (fun w hw => what_q H hW w hw) hb.out.n0 hb.out.n1 hb.out.l1 hb.out.sW
theorem rdig_q {n : Int} {d : ByteArray} (h : Hd (d = digB n ∧ n ≤ 9223372036854775807)) (w : World) :
    Calls Tryd.prog 20 #[.int .i64 n] w fun e w' => e = .returned (.string d) ∧ Below w.heap.size w w' := by
  rw [h.out.1]; exact rdigits_ok n w h.out.2

/-- The early answers: a number or a line beyond the bound. -/
theorem tells_far (code L0 : Int) (S0 : ByteArray) (a : Option Addr) (n cap : Nat) (w : World) (he : ET w) (h : 1000000 < code ∨ 1000000 < L0) :
    Calls Tryd.prog 7 #[.int .i64 code, .slice a n cap, .int .i64 L0, .string S0] w fun e w' => e = .returned (.bool true) ∧ Below w.heap.size w w' := by
  have E0 : Hd (ET w) := ⟨he⟩
  have B0 : Hd (Below w.heap.size w w) := ⟨Below.refl _ _⟩
  clear he
  by_cases h1 : 1000000 < code
  · clear h
    go_enter Tryd.func7, Tryd.ntmps7
    go_wp2_with (go_at_call 8; refine (awake_ok _ E0.out).mono ?_; rintro e w1 ⟨rfl, b1⟩; have B1 := HB B0 b1; clear b1)
    go_ret
    exact ⟨rfl, B1.out⟩
  · have h2 : 1000000 < L0 := by omega
    clear h
    go_enter Tryd.func7, Tryd.ntmps7
    go_wp2_with (go_at_call 8; refine (awake_ok _ E0.out).mono ?_; rintro e w1 ⟨rfl, b1⟩; have B1 := HB B0 b1; clear b1)
    go_ret
    exact ⟨rfl, B1.out⟩

end Go.Proofs.YtndandkanamjoaaDoor
