/-
  What 'sum', 'greatest' and 'refusal' of the program answer. Conditions: the list's numbers lie in memory; of 'sum' that there are at most 64 numbers, each from 0 to 10000.
-/
import Derived.Test.YtcombbkhdnipkaaRows
import Derived.WalkKit
import Derived.ProofKit
import Derived.OpenShut
import Derived.Below
import Derived.BigQuiet
import Derived.Deep.QuietTactic
namespace Go.Proofs.Ytcombbkhdnipkaa.Bo
open Go.RowKit

/-- The sum of the first n numbers. -/
def sumTo (f : Nat → Int) : Nat → Int
  | 0 => 0
  | n + 1 => sumTo f n + f n

/-- Where the first of the greatest among the first n numbers stands. -/
def arg (f : Nat → Int) : Nat → Nat
  | 0 => 0
  | n + 1 => if f (arg f n) < f n then n else arg f n

/-- The slice at a of n numbers lies in memory, and its numbers are f 0, f 1, .. -/
def Row (w : World) (a : Option Addr) (n : Nat) (f : Nat → Int) : Prop :=
  0 < n → ∃ b off, a = some ⟨b, off, none⟩ ∧ b < w.heap.size ∧ ∀ k, k < n → w.cell? ⟨b, off + k, none⟩ = some (.int .i64 (f k))

theorem Row.carry {w w' : World} {a : Option Addr} {n : Nat} {f : Nat → Int} (h : Row w a n f) (g : Below w.heap.size w w') : Row w' a n f := by
  intro hn
  obtain ⟨b, off, e, hb, hc⟩ := h hn
  exact ⟨b, off, e, Nat.lt_of_lt_of_le hb g.size, fun k hk => (g.cell (p := ⟨b, off + k, none⟩) hb).trans (hc k hk)⟩

theorem sumTo_le {f : Nat → Int} {n : Nat} {M : Int} (h : ∀ k, k < n → 0 ≤ f k ∧ f k ≤ M) : ∀ k, k ≤ n → 0 ≤ sumTo f k ∧ sumTo f k ≤ M * k := by
  intro k hk
  induction k with
  | zero => simp [sumTo]
  | succ k ih =>
    have := h k (by omega)
    have := ih (by omega)
    simp only [sumTo, Int.natCast_add, Int.mul_add]
    omega

theorem arg_lt (f : Nat → Int) : ∀ n, 0 < n → arg f n < n := by
  intro n hn
  induction n with
  | zero => omega
  | succ n ih =>
    simp only [arg]
    split
    · omega
    · rcases n with _ | n
      · simp [arg]
      · have := ih (by omega); omega

theorem sum_any (a : Option Addr) (n cap : Nat) (f : Nat → Int) (w : World) (hr : Row w a n f) (hn : n ≤ 64) (hf : ∀ k, k < n → 0 ≤ f k ∧ f k ≤ 10000) :
    Calls Try.prog 26 #[.slice a n cap] w fun e w' => e = .returned (.int .i64 (sumTo f n)) ∧ w' = w := by
  go_enter Try.func26, Try.ntmps26
  go_wp2
  go_loop [3, 8] (fun s i => ∃ k : Nat, k ≤ n ∧ i = .int .i64 k ∧ s = .int .i64 (sumTo f k)) (fun _ i => n - (intOf i).toNat)
  case atStart => exact ⟨0, Nat.zero_le _, rfl, rfl⟩
  case round =>
    obtain ⟨k, hk, rfl, rfl⟩ := hrel
    have hs := sumTo_le hf k hk
    by_cases hlt : k < n
    · obtain ⟨b, off, rfl, hb, hc⟩ := hr (by omega)
      have hcell := hc k hlt
      have hfk := hf k hlt
      clear hc hf
      go_wp2
      go_round
      case rel => exact ⟨k + 1, by omega, by go_num, by simp [sumTo]⟩
      case measure => simp [intOf]; omega
    · obtain rfl : k = n := by omega
      clear hr hf
      go_wp2
      go_ret; exact ⟨rfl, rfl⟩

theorem greatest_any (a : Option Addr) (n cap : Nat) (f : Nat → Int) (w : World) (hr : Row w a n f) (hn : n ≤ 64) :
    Calls Try.prog 27 #[.slice a n cap] w fun e w' => e = .returned (.int .i64 (arg f n)) ∧ w' = w := by
  go_enter Try.func27, Try.ntmps27
  go_wp2
  go_loop [3, 8] (fun s i => ∃ k : Nat, k ≤ n ∧ i = .int .i64 k ∧ s = .int .i64 (arg f k)) (fun _ i => n - (intOf i).toNat)
  case atStart => exact ⟨0, Nat.zero_le _, rfl, rfl⟩
  case round =>
    obtain ⟨k, hk, rfl, rfl⟩ := hrel
    by_cases hlt : k < n
    · obtain ⟨b, off, rfl, hb, hc⟩ := hr (by omega)
      have hcell := hc k hlt
      have ha : arg f k < n := by
        rcases Nat.eq_zero_or_pos k with rfl | h
        · simpa [arg] using hlt
        · have := arg_lt f k h; omega
      have hcell2 := hc (arg f k) ha
      clear hc
      by_cases t : f (arg f k) < f k
      · have e : arg f (k + 1) = k := by simp [arg, t]
        go_wp2
        go_round
        case rel => exact ⟨k + 1, by omega, by go_num, by rw [e]⟩
        case measure => simp [intOf]; omega
      · have e : arg f (k + 1) = arg f k := by simp [arg, t]
        go_wp2
        go_round
        case rel => exact ⟨k + 1, by omega, by go_num, by rw [e]⟩
        case measure => simp [intOf]; omega
    · obtain rfl : k = n := by omega
      clear hr
      go_wp2
      go_ret; exact ⟨rfl, rfl⟩

/-- The document's refusal, as a number. -/
def refI (total : Int) (n : Nat) (f : Nat → Int) : Int :=
  if total < 0 ∨ 4096 < total then 1 else if 16 < n then 3 else if ∃ k, k < n ∧ (f k < 0 ∨ 10000 < f k) then 8 else if sumTo f n = 0 then 6 else 0

theorem refusal_any (total : Int) (a : Option Addr) (n cap : Nat) (f : Nat → Int) (w : World) (hr : Row w a n f) :
    Calls Try.prog 24 #[.int .i64 total, .slice a n cap] w fun e w' => e = .returned (.int .i64 (refI total n f)) ∧ w' = w := by
  by_cases t1 : total < 0
  · have e : refI total n f = 1 := by simp [refI, t1]
    rw [e]; clear e
    go_enter Try.func24, Try.ntmps24
    go_wp2
    go_ret; exact ⟨rfl, rfl⟩
  by_cases t2 : 4096 < total
  · have e : refI total n f = 1 := by simp [refI, t2]
    rw [e]; clear e
    go_enter Try.func24, Try.ntmps24
    go_wp2
    go_ret; exact ⟨rfl, rfl⟩
  have e1 : refI total n f = if 16 < n then 3 else if ∃ k, k < n ∧ (f k < 0 ∨ 10000 < f k) then 8 else if sumTo f n = 0 then 6 else 0 := by simp [refI, t1, t2]
  by_cases t3 : 16 < n
  · have e : refI total n f = 3 := by rw [e1, if_pos t3]
    rw [e]; clear e e1
    have t3' : (16 : Int) < (n : Int) := by omega
    go_enter Try.func24, Try.ntmps24
    go_wp2
    go_ret; exact ⟨rfl, rfl⟩
  rw [if_neg t3] at e1
  have E1 : Hid (refI total n f = if ∃ k, k < n ∧ (f k < 0 ∨ 10000 < f k) then 8 else if sumTo f n = 0 then 6 else 0) := e1
  clear e1
  have t3' : ¬ (16 : Int) < (n : Int) := by omega
  go_enter Try.func24, Try.ntmps24
  go_wp2
  go_loop [18] (fun i => ∃ k : Nat, k ≤ n ∧ i = .int .i64 k ∧ Hid (∀ j, j < k → 0 ≤ f j ∧ f j ≤ 10000)) (fun i => n - (intOf i).toNat)
  case atStart => exact ⟨0, Nat.zero_le _, rfl, fun j hj => absurd hj (Nat.not_lt_zero _)⟩
  case round =>
    obtain ⟨k, hk, rfl, hall⟩ := hrel
    by_cases hlt : k < n
    · obtain ⟨b, off, rfl, hb, hc⟩ := hr (by omega)
      have hcell := hc k hlt
      clear hc
      by_cases c1 : f k < 0
      · have e : refI total n f = 8 := by rw [E1.out, if_pos ⟨k, hlt, .inl c1⟩]
        have E : Hid (refI total n f = 8) := e
        clear e
        go_wp2
        go_ret; exact ⟨congrArg (fun x => Ending.returned (Value.int .i64 x)) E.out.symm, rfl⟩
      by_cases c2 : 10000 < f k
      · have e : refI total n f = 8 := by rw [E1.out, if_pos ⟨k, hlt, .inr c2⟩]
        have E : Hid (refI total n f = 8) := e
        clear e
        go_wp2
        go_ret; exact ⟨congrArg (fun x => Ending.returned (Value.int .i64 x)) E.out.symm, rfl⟩
      go_wp2
      go_round
      case rel =>
        refine ⟨k + 1, by omega, by go_num, fun j hj => ?_⟩
        rcases Nat.lt_or_eq_of_le (Nat.le_of_lt_succ hj) with h | rfl
        · exact hall.out j h
        · exact ⟨by omega, by omega⟩
      case measure => simp [intOf]; omega
    · obtain rfl : k = n := by omega
      have e2 : refI total k f = if sumTo f k = 0 then 6 else 0 := by
        rw [E1.out, if_neg]
        rintro ⟨j, hj, h⟩
        have := hall.out j hj
        omega
      by_cases c3 : sumTo f k = 0
      · rw [if_pos c3] at e2
        have E : Hid (refI total k f = 6) := e2
        clear e2 E1
        go_wp2_with (go_at_call 26; refine (sum_any _ _ _ f _ hr (by omega) hall.out).mono ?_; rintro e w' ⟨rfl, hw⟩; obtain rfl := hw.symm)
        go_ret; exact ⟨congrArg (fun x => Ending.returned (Value.int .i64 x)) E.out.symm, rfl⟩
      · rw [if_neg c3] at e2
        have E : Hid (refI total k f = 0) := e2
        clear e2 E1
        have c3' : (sumTo f k == 0) = false := by simpa using c3
        go_wp2_with (go_at_call 26; refine (sum_any _ _ _ f _ hr (by omega) hall.out).mono ?_; rintro e w' ⟨rfl, hw⟩; obtain rfl := hw.symm)
        go_ret; exact ⟨congrArg (fun x => Ending.returned (Value.int .i64 x)) E.out.symm, rfl⟩

/-- Nothing was refused: what is then known. -/
theorem refI_zero {total : Int} {n : Nat} {f : Nat → Int} (h : refI total n f = 0) :
    (0 ≤ total ∧ total ≤ 4096) ∧ n ≤ 16 ∧ (∀ k, k < n → 0 ≤ f k ∧ f k ≤ 10000) ∧ sumTo f n ≠ 0 := by
  unfold refI at h
  split at h
  · simp at h
  rename_i h1
  split at h
  · simp at h
  rename_i h2
  split at h
  · simp at h
  rename_i h3
  split at h
  · simp at h
  rename_i h4
  refine ⟨by omega, by omega, fun k hk => ?_, h4⟩
  by_cases c : f k < 0 ∨ 10000 < f k
  · exact absurd ⟨k, hk, c⟩ h3
  · omega
end Go.Proofs.Ytcombbkhdnipkaa.Bo
