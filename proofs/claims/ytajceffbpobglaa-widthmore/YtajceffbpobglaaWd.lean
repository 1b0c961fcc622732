/-
  What the functions of 'width' answer. Conditions: numbers fit their type.
-/
import Derived.Test.YtajceffbpobglaaMath
namespace Go.Proofs.Ytajceffbpobglaa
open Go.RowKit

theorem up_ok (n d : Int) (w : World) (hn : 0 ≤ n) (hn' : n ≤ 9223372036854775807) (hd : 1 ≤ d) (hd' : d ≤ 9223372036854775807) :
    Calls Try.prog 12 #[.int .i64 n, .int .i64 d] w fun e w' => e = .returned (.int .i64 (up n d)) ∧ w' = w := by
  have u1 := up_nonneg (d := d) (by omega) hn
  have u2 := up_le_self (d := d) (by omega) hn
  by_cases h : n % d = 0
  · have e : Hd (n / d = up n d) := ⟨up_exact (by omega) h⟩
    have g : (n % d == 0) = true := by simpa using h
    clear h u1 u2
    go_enter Try.func12, Try.ntmps12
    go_wp2_with fail
    go_ret
    exact ⟨by rw [← e.out]; rfl, rfl⟩
  · have e := up_more (by omega) h
    have g : (n % d == 0) = false := by simpa using h
    have HE : Hd (n / d + 1 = up n d) := ⟨e⟩
    have q1 : 0 ≤ n / d + 1 := by omega
    have q2 : n / d + 1 ≤ 9223372036854775807 := by omega
    clear e u1 u2 h
    go_enter Try.func12, Try.ntmps12
    go_wp2_with fail
    go_ret
    exact ⟨by rw [← HE.out]; go_num, rfl⟩

theorem listed_ok (p o : Int) (s : Bool) (w : World) (hp : 1 ≤ p) (hp' : p ≤ 9223372036854775807) (ho : 0 ≤ o) (ho' : o ≤ 9223372036854775807) :
    Calls Try.prog 11 #[.int .i64 p, .int .i64 o, .bool s] w fun e w' => e = .returned (.int .i64 (lst p o s)) ∧ w' = w := by
  have u1 := up_nonneg (d := p) (by omega) ho
  have u2 := up_le_self (d := p) (by omega) ho
  have H1 := up_ok o p w ho ho' hp hp'
  have H2 := up_ok (up o p) 2 w u1 (by omega) (by omega) (by omega)
  cases s with
  | false =>
    have HE : Hd (lst p o false = max (up o p) 1) := ⟨rfl⟩
    clear H2 u1 u2
    generalize up o p = y at *
    go_enter Try.func11, Try.ntmps11
    go_wp2_with (go_at_call 12; refine H1.mono ?_; rintro e w' ⟨rfl, hw⟩; obtain rfl := hw.symm)
    go_ret
    exact ⟨by rw [HE.out]; rfl, rfl⟩
  | true =>
    have HE : Hd (lst p o true = max (up (up o p) 2) 1) := ⟨rfl⟩
    clear u1 u2
    generalize up (up o p) 2 = z at *
    generalize up o p = y at *
    go_enter Try.func11, Try.ntmps11
    go_wp2_with fail
    go_at_call 12
    refine H1.mono ?_
    rintro e w' ⟨rfl, hw⟩
    obtain rfl := hw.symm
    go_wp2_with fail
    go_at_call 12
    refine H2.mono ?_
    rintro e w' ⟨rfl, hw⟩
    obtain rfl := hw.symm
    go_wp2_with fail
    go_ret
    exact ⟨by rw [HE.out]; rfl, rfl⟩
end Go.Proofs.Ytajceffbpobglaa
