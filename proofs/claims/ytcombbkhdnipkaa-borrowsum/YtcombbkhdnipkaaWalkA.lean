/-
  What 'sum', 'after', 'hasLess', 'inBounds', 'next' of the program answer. Conditions: the lists' numbers lie in memory; their bounds, as each theorem says them.
-/
import Derived.Test.YtcombbkhdnipkaaMathA
namespace Go.Proofs.Ytcombbkhdnipkaa
open Go.RowKit

/-- The slice at a of n numbers lies in memory, and its numbers are f 0, f 1, .. -/
def Row (w : World) (a : Option Addr) (n : Nat) (f : Nat → Int) : Prop :=
  0 < n → ∃ b off, a = some ⟨b, off, none⟩ ∧ b < w.heap.size ∧ ∀ k, k < n → w.cell? ⟨b, off + k, none⟩ = some (.int .i64 (f k))

theorem Row.carry {w w' : World} {a : Option Addr} {n : Nat} {f : Nat → Int} (h : Row w a n f) (g : Below w.heap.size w w') : Row w' a n f := by
  intro hn
  obtain ⟨b, off, e, hb, hc⟩ := h hn
  exact ⟨b, off, e, Nat.lt_of_lt_of_le hb g.size, fun k hk => (g.cell (p := ⟨b, off + k, none⟩) hb).trans (hc k hk)⟩

theorem sum_any (a : Option Addr) (n cap : Nat) (f : Nat → Int) (w : World) (hr : Row w a n f) (hn : n ≤ 64) (hf : ∀ k, k < n → 0 ≤ f k ∧ f k ≤ 10000) :
    Calls Try.prog 22 #[.slice a n cap] w fun e w' => e = .returned (.int .i64 (sumTo f n)) ∧ w' = w := by
  go_enter Try.func22, Try.ntmps22
  go_wp2
  go_loop [3, 8] (fun s i => ∃ k : Nat, k ≤ n ∧ i = .int .i64 k ∧ s = .int .i64 (sumTo f k)) (fun _ i => n - (intOf i).toNat)
  case atStart => exact ⟨0, Nat.zero_le _, rfl, rfl⟩
  case round =>
    obtain ⟨k, hk, rfl, rfl⟩ := hrel
    have hs := sumTo_le hf k hk
    by_cases hlt : k < n
    · obtain ⟨b, off, rfl, hb, hc⟩ := hr (by omega)
      have hcell := hc k hlt
      have hfk := hf k hlt
      clear hc hf
      go_wp2
      go_round
      case rel => exact ⟨k + 1, by omega, by go_num, by simp [sumTo]⟩
      case measure => simp [intOf]; omega
    · obtain rfl : k = n := by omega
      clear hr hf
      go_wp2
      go_ret; exact ⟨rfl, rfl⟩

theorem after_any (x : Int) (w : World) (h0 : 0 ≤ x) (h1 : x ≤ 1048576) :
    Calls Try.prog 32 #[.int .i64 x] w fun e w' => e = .returned (.int .u64 (x + 1)) ∧ w' = w := by
  go_enter Try.func32, Try.ntmps32
  go_wp2
  go_ret; exact ⟨rfl, rfl⟩

theorem after_word {x : Int} (h0 : 0 ≤ x) (h1 : x ≤ 1048576) : Word (x + 1) := ⟨by omega, by omega⟩

theorem inBounds_any (l h u : Int) (w : World) :
    Calls Try.prog 29 #[.int .i64 l, .int .i64 h, .int .i64 u] w fun e w' => e = .returned (.bool (decide (0 ≤ l ∧ l ≤ h ∧ h ≤ 4096 ∧ 0 ≤ u ∧ u ≤ 1048576))) ∧ w' = w := by
  by_cases c1 : 0 ≤ l
  case neg =>
    have e : decide (0 ≤ l ∧ l ≤ h ∧ h ≤ 4096 ∧ 0 ≤ u ∧ u ≤ 1048576) = false := by simp; omega
    rw [e]; clear e
    go_enter Try.func29, Try.ntmps29
    go_wp2
    go_ret; exact ⟨rfl, rfl⟩
  by_cases c2 : l ≤ h
  case neg =>
    have e : decide (0 ≤ l ∧ l ≤ h ∧ h ≤ 4096 ∧ 0 ≤ u ∧ u ≤ 1048576) = false := by simp; omega
    rw [e]; clear e
    go_enter Try.func29, Try.ntmps29
    go_wp2
    go_ret; exact ⟨rfl, rfl⟩
  by_cases c3 : h ≤ 4096
  case neg =>
    have e : decide (0 ≤ l ∧ l ≤ h ∧ h ≤ 4096 ∧ 0 ≤ u ∧ u ≤ 1048576) = false := by simp; omega
    rw [e]; clear e
    go_enter Try.func29, Try.ntmps29
    go_wp2
    go_ret; exact ⟨rfl, rfl⟩
  by_cases c4 : 0 ≤ u
  case neg =>
    have e : decide (0 ≤ l ∧ l ≤ h ∧ h ≤ 4096 ∧ 0 ≤ u ∧ u ≤ 1048576) = false := by simp; omega
    rw [e]; clear e
    go_enter Try.func29, Try.ntmps29
    go_wp2
    go_ret; exact ⟨rfl, rfl⟩
  by_cases c5 : u ≤ 1048576
  case neg =>
    have e : decide (0 ≤ l ∧ l ≤ h ∧ h ≤ 4096 ∧ 0 ≤ u ∧ u ≤ 1048576) = false := by simp; omega
    rw [e]; clear e
    go_enter Try.func29, Try.ntmps29
    go_wp2
    go_ret; exact ⟨rfl, rfl⟩
  have e : decide (0 ≤ l ∧ l ≤ h ∧ h ≤ 4096 ∧ 0 ≤ u ∧ u ≤ 1048576) = true := by simp; omega
  rw [e]; clear e
  go_enter Try.func29, Try.ntmps29
  go_wp2
  go_ret; exact ⟨rfl, rfl⟩

theorem cmp_less {a b c d : Int} (hb : 0 ≤ b) (hd : 0 ≤ d) : decide (cmpI (a + 1) (b + 1) (c + 1) (d + 1) < 0) = decide ((a + 1) * (d + 1) < (c + 1) * (b + 1)) := by
  unfold cmpI sgnI
  rw [if_neg (by omega), if_neg (by omega)]
  split
  · simp_all
  · split <;> simp_all

set_option maxRecDepth 20000 in
set_option maxHeartbeats 1000000 in
theorem hasLess_any (a d : Option Addr) (n m c1 c2 : Nat) (p u : Nat → Int) (i j : Nat) (w : World) (h1 : Row w a n p) (h2 : Row w d m u) (hin : i < n) (hjn : j < n) (him : i < m) (hjm : j < m) (hn : n ≤ 64) (hm : m ≤ 64)
    (hp : ∀ k, k < n → 0 ≤ p k ∧ p k ≤ 4096) (hu : ∀ k, k < m → 0 ≤ u k ∧ u k ≤ 1048576) :
    Calls Try.prog 30 #[.slice a n c1, .slice d m c2, .int .i64 i, .int .i64 j] w fun e w' => e = .returned (.bool (decide (less p u i j))) ∧ ∃ k, w' = w.drewN k := by
  obtain ⟨b1, o1, rfl, hb1, hc1⟩ := h1 (by omega)
  obtain ⟨b2, o2, rfl, hb2, hc2⟩ := h2 (by omega)
  have d1 := hc1 i hin
  have d2 := hc1 j hjn
  have d3 := hc2 i him
  have d4 := hc2 j hjm
  have p1 := hp i hin
  have p2 := hp j hjn
  have u1 := hu i him
  have u2 := hu j hjm
  obtain ⟨p1a, p1b⟩ := p1
  obtain ⟨p2a, p2b⟩ := p2
  obtain ⟨u1a, u1b⟩ := u1
  obtain ⟨u2a, u2b⟩ := u2
  have e := cmp_less (a := p i) (b := u i) (c := p j) (d := u j) u1a u2a
  have E : Hid (decide (cmpI (p i + 1) (u i + 1) (p j + 1) (u j + 1) < 0) = decide (less p u i j)) := e
  have i1 : (i : Int) < (n : Int) := by omega
  have i2 : (j : Int) < (n : Int) := by omega
  have i3 : (i : Int) < (m : Int) := by omega
  have i4 : (j : Int) < (m : Int) := by omega
  clear hc1 hc2 hp hu h1 h2 e
  go_enter Try.func30, Try.ntmps30
  go_wp2
  go_quiet ((first
    | (go_at_call 32; exact Calls.quiet_of_same (after_any _ _ (by assumption) (by omega)))
    | (go_at_call 31; exact Calls.quiet_of_same (cmp_any _ _ _ _ _ (after_word (by assumption) (by omega)) (after_word (by assumption) (by omega)) (after_word (by assumption) (by omega)) (after_word (by assumption) (by omega))))))
  go_wp2
  go_ret; exact ⟨congrArg (fun x => Ending.returned (Value.bool x)) E.out, _, rfl⟩
end Go.Proofs.Ytcombbkhdnipkaa
