/-
  What 'Mul64', 'Compare', 'compareProducts' and 'Cmp' of the program answer, for all words: products of two words exactly, quotients held against each other. Conditions: the arguments are words of 64 bits.
-/
import Derived.Test.YtcombbkhdnipkaaRows
import Derived.WalkKit
import Derived.WalkSpells
import Derived.WalkLawsBesides
import Derived.ProofKit
import Derived.OpenShut
import Derived.Below
import Derived.BigQuiet
import Derived.Deep.QuietTactic
import Derived.Lib.Mul64
import Derived.Laws.Bits64b
namespace Go.Proofs.Ytcombbkhdnipkaa
open Go.RowKit Go.Lib

def Word (x : Int) : Prop := 0 ≤ x ∧ x < 18446744073709551616

theorem maskN (a : Nat) (ha : a < 18446744073709551616) : bits .and .u64 (a : Int) 4294967295 = ((a % 4294967296 : Nat) : Int) := by
  have h := bits_and_u64_nat a 4294967295 ha (by omega)
  have e : a &&& 4294967295 = a % 4294967296 := Nat.and_two_pow_sub_one_eq_mod a 32
  rw [e] at h
  exact h
theorem divN (a : Nat) : (a : Int) / 4294967296 = ((a / 4294967296 : Nat) : Int) := by omega
theorem mulN (a b : Nat) : (a : Int) * (b : Int) = ((a * b : Nat) : Int) := (Int.natCast_mul a b).symm
theorem addN (a b : Nat) : (a : Int) + (b : Int) = ((a + b : Nat) : Int) := (Int.natCast_add a b).symm
theorem wrapN (a : Nat) (ha : a < 18446744073709551616) : IntKind.u64.wrap (a : Int) = (a : Int) := by rw [IntKind.wrap_u64]; omega
theorem wrapM (a : Nat) : IntKind.u64.wrap (a : Int) = ((a % 18446744073709551616 : Nat) : Int) := by rw [IntKind.wrap_u64]; omega

set_option maxHeartbeats 1000000 in
theorem mul64_nat (x y : Nat) (hx : x < 18446744073709551616) (hy : y < 18446744073709551616) (w : World) :
    Calls Try.prog 34 #[.int .u64 x, .int .u64 y] w fun e w' => e = .returned (.tuple #[.int .u64 ((x * y / 18446744073709551616 : Nat) : Int), .int .u64 ((x * y % 18446744073709551616 : Nat) : Int)]) ∧ w' = w := by
  obtain ⟨bd, bt, bw, hhi⟩ := Lib.mul64_hi x y hx hy
  have ba := Lib.half_mul_le (a := x / 4294967296) (b := y / 4294967296) (by omega) (by omega)
  have bb := Lib.half_mul_le (a := x / 4294967296) (b := y % 4294967296) (by omega) (by omega)
  have bc := Lib.half_mul_le (a := x % 4294967296) (b := y / 4294967296) (by omega) (by omega)
  have ba' : x / 4294967296 * (y / 4294967296) < 18446744073709551616 := by omega
  have bb' : x / 4294967296 * (y % 4294967296) < 18446744073709551616 := by omega
  have bc' : x % 4294967296 * (y / 4294967296) < 18446744073709551616 := by omega
  have bh1 : x / 4294967296 * (y / 4294967296) + (x / 4294967296 * (y % 4294967296) + x % 4294967296 * (y % 4294967296) / 4294967296) / 4294967296 < 18446744073709551616 := by omega
  have bh : x / 4294967296 * (y / 4294967296) + (x / 4294967296 * (y % 4294967296) + x % 4294967296 * (y % 4294967296) / 4294967296) / 4294967296 + ((x / 4294967296 * (y % 4294967296) + x % 4294967296 * (y % 4294967296) / 4294967296) % 4294967296 + x % 4294967296 * (y / 4294967296)) / 4294967296 < 18446744073709551616 := by omega
  go_enter Try.func34, Try.ntmps34
  go_wp2
  simp only [maskN x hx, maskN y hy, divN, mulN, addN, wrapN _ bd, wrapN _ bb', wrapN _ bt, maskN _ bt, wrapN _ bc', wrapN _ bw, wrapN _ ba', wrapN _ bh1, wrapN _ bh, wrapM (x * y)]
  rw [hhi]
  go_ret2
  exact ⟨rfl, rfl⟩

/-- The two words of a product. -/
def mulHi (x y : Int) : Int := x * y / 18446744073709551616
def mulLo (x y : Int) : Int := x * y % 18446744073709551616

theorem mul_words (x y : Int) : mulHi x y * 18446744073709551616 + mulLo x y = x * y := by
  unfold mulHi mulLo; exact Int.ediv_mul_add_emod _ _
theorem mulLo_word (x y : Int) : Word (mulLo x y) := by
  unfold mulLo Word; generalize x * y = p; omega
theorem prod_lt {x y : Int} (hx : Word x) (hy : Word y) : 0 ≤ x * y ∧ x * y < 340282366920938463463374607431768211456 := by
  obtain ⟨a, b⟩ := hx; obtain ⟨c, d⟩ := hy
  refine ⟨Int.mul_nonneg a c, ?_⟩
  have h1 : x * y ≤ 18446744073709551615 * y := Int.mul_le_mul_of_nonneg_right (by omega) c
  omega
theorem mulHi_word {x y : Int} (hx : Word x) (hy : Word y) : Word (mulHi x y) := by
  obtain ⟨h1, h2⟩ := prod_lt hx hy
  unfold mulHi Word; revert h1 h2; generalize x * y = p; omega

theorem mul64_any (x y : Int) (w : World) (hx : Word x) (hy : Word y) :
    Calls Try.prog 34 #[.int .u64 x, .int .u64 y] w fun e w' => e = .returned (.tuple #[.int .u64 (mulHi x y), .int .u64 (mulLo x y)]) ∧ w' = w := by
  obtain ⟨x1, x2⟩ := hx; obtain ⟨y1, y2⟩ := hy
  obtain ⟨x, rfl⟩ := Int.eq_ofNat_of_zero_le x1
  obtain ⟨y, rfl⟩ := Int.eq_ofNat_of_zero_le y1
  have := mul64_nat x y (by omega) (by omega) w
  simpa [mulHi, mulLo] using this

def sgnI (x y : Int) : Int := if x < y then -1 else if y < x then 1 else 0

set_option maxHeartbeats 400000 in
theorem compare_any (x y : Int) (w : World) :
    Calls Try.prog 35 #[.int .u64 x, .int .u64 y] w fun e w' => e = .returned (.int .i64 (sgnI x y)) ∧ w' = w := by
  unfold sgnI
  go_enter Try.func35, Try.ntmps35
  go_wp2
  all_goals (go_ret; exact ⟨rfl, rfl⟩)

theorem sgn_words (x y x' y' : Int) : sgnI (x * y) (x' * y') = if mulHi x y = mulHi x' y' then sgnI (mulLo x y) (mulLo x' y') else sgnI (mulHi x y) (mulHi x' y') := by
  have h1 := mul_words x y; have h2 := mul_words x' y'
  have h3 := mulLo_word x y; have h4 := mulLo_word x' y'
  unfold Word at h3 h4
  rw [← h1, ← h2]
  revert h3 h4
  generalize mulHi x y = a; generalize mulHi x' y' = b; generalize mulLo x y = c; generalize mulLo x' y' = d
  intro h3 h4
  unfold sgnI
  repeat' split
  all_goals omega

set_option maxHeartbeats 400000 in
theorem compareProducts_any (a b c d : Int) (w : World) (ha : Word a) (hb : Word b) (hc : Word c) (hd : Word d) :
    Calls Try.prog 33 #[.int .u64 a, .int .u64 b, .int .u64 c, .int .u64 d] w fun e w' => e = .returned (.int .i64 (sgnI (a * b) (c * d))) ∧ w' = w := by
  rw [sgn_words]
  by_cases he : mulHi a b = mulHi c d
  · rw [if_pos he]
    have he' : (mulHi a b == mulHi c d) = true := by simpa using he
    have hn : (mulHi a b != mulHi c d) = false := by simpa using he
    clear he he'
    go_enter Try.func33, Try.ntmps33
    go_wp2_with (first | (go_at_call 34; refine (mul64_any _ _ _ (by assumption) (by assumption)).mono ?_; rintro e w' ⟨rfl, rfl⟩) | (go_at_call 35; refine (compare_any _ _ _).mono ?_; rintro e w' ⟨rfl, rfl⟩))
    all_goals (go_ret; exact ⟨rfl, rfl⟩)
  · rw [if_neg he]
    have hn : (mulHi a b != mulHi c d) = true := by simpa using he
    clear he
    go_enter Try.func33, Try.ntmps33
    go_wp2_with (first | (go_at_call 34; refine (mul64_any _ _ _ (by assumption) (by assumption)).mono ?_; rintro e w' ⟨rfl, rfl⟩) | (go_at_call 35; refine (compare_any _ _ _).mono ?_; rintro e w' ⟨rfl, rfl⟩))
    all_goals (go_ret; exact ⟨rfl, rfl⟩)

def cmpI (a b c d : Int) : Int := if b = 0 then (if d = 0 then 0 else 1) else if d = 0 then -1 else sgnI (a * d) (c * b)

set_option maxHeartbeats 400000 in
theorem cmp_any (a b c d : Int) (w : World) (ha : Word a) (hb : Word b) (hc : Word c) (hd : Word d) :
    Calls Try.prog 31 #[.int .u64 a, .int .u64 b, .int .u64 c, .int .u64 d] w fun e w' => e = .returned (.int .i64 (cmpI a b c d)) ∧ w' = w := by
  unfold cmpI
  by_cases h1 : b = 0
  · subst h1
    by_cases h2 : d = 0
    · subst h2
      go_enter Try.func31, Try.ntmps31
      go_wp2
      all_goals (go_ret; exact ⟨rfl, rfl⟩)
    · have h2' : (d == 0) = false := by simpa using h2
      rw [if_neg h2]
      clear h2
      go_enter Try.func31, Try.ntmps31
      go_wp2
      all_goals (go_ret; exact ⟨rfl, rfl⟩)
  · have h1' : (b == 0) = false := by simpa using h1
    rw [if_neg h1]
    clear h1
    by_cases h2 : d = 0
    · subst h2
      go_enter Try.func31, Try.ntmps31
      go_wp2
      all_goals (go_ret; exact ⟨rfl, rfl⟩)
    · have h2' : (d == 0) = false := by simpa using h2
      rw [if_neg h2]
      clear h2
      go_enter Try.func31, Try.ntmps31
      go_wp2_with (go_at_call 33; refine (compareProducts_any _ _ _ _ _ (by assumption) (by assumption) (by assumption) (by assumption)).mono ?_; rintro e w' ⟨rfl, rfl⟩)
      all_goals (go_ret; exact ⟨rfl, rfl⟩)
end Go.Proofs.Ytcombbkhdnipkaa
