/-
  'FnvApart': the walk. No condition.
-/
import Derived.Test.YthelchhmjcpafaaLawP
namespace Go.Proofs.Ythelchhmjcpafaa
open Go.RowKit

theorem word_nat {a : Int} (h : (Lit.int .u64 a).wf = true) : ∃ n : Nat, a = n ∧ n < 18446744073709551616 := by
  simp [Lit.wf, IntKind.min, IntKind.max, IntKind.bits, IntKind.signed] at h
  exact ⟨a.toNat, by omega, by omega⟩

theorem apart_ok (g h : Int) (s : ByteArray) (w : World) (hg : (Lit.int .u64 g).wf = true) (hh : (Lit.int .u64 h).wf = true) (hs : s.size ≤ maxLen) :
    Calls Try.prog 6 #[.int .u64 g, .int .u64 h, .string s] w fun e w' => e = .returned (.bool true) ∧ Below w.heap.size w w' := by
  have hm : s.size ≤ 9223372036854775807 := by simp only [maxLen] at hs; omega
  obtain ⟨g, rfl, lg⟩ := word_nat hg
  obtain ⟨h, rfl, lh⟩ := word_nat hh
  clear hg hh
  go_enter Try.func6, Try.ntmps6
  go_wp2_with fail
  go_at_call 8
  refine (awake_ok w).mono ?_
  rintro e w' ⟨rfl, hw⟩; obtain rfl := hw.symm
  by_cases c1 : (65536 : Int) < s.size
  · go_wp2
    go_ret
    exact ⟨rfl, Below.refl _ _⟩
  · go_wp2_with fail
    go_at_call 11
    refine (more_ok g s lg hm w).mono ?_
    rintro e w' ⟨rfl, hw⟩; obtain rfl := hw.symm
    go_wp2_with fail
    go_at_call 11
    refine (more_ok h s lh hm w).mono ?_
    rintro e w' ⟨rfl, hw⟩; obtain rfl := hw.symm
    have E : (more g s = more h s) ↔ g = h := ⟨fun e => by rw [more_eq, more_eq] at e; exact hsh_inj _ _ _ lg lh e, fun e => by rw [e]⟩
    go_wp2
    go_ret
    refine ⟨?_, Below.refl _ _⟩
    show Ending.returned (Value.bool _) = _
    congr 2
    by_cases c : g = h
    · subst c
      simp
    · have c' := fun e => c (E.1 e)
      have e1 : ((g : Int) == (h : Int)) = false := by simp; omega
      have e2 : (((more g s : Nat) : Int) == ((more h s : Nat) : Int)) = false := by simp; omega
      rw [e1, e2]
      rfl
end Go.Proofs.Ythelchhmjcpafaa
