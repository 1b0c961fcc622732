/-
  What 'Same' of the reference answers; lists of two, and lists that came in. Conditions: the lists lie in memory.
-/
import Derived.Test.YtcombbkhdnipkaaWalkC
import Derived.Laws.AppendOwnNone
namespace Go.Proofs.Ytcombbkhdnipkaa
open Go.RowKit

theorem same_yes (a b : Option Addr) (n c1 c2 : Nat) (f g : Nat → Int) (w : World) (h1 : Row w a n f) (h2 : Row w b n g) (hn : n ≤ 9223372036854775807) (h : ∀ k, k < n → f k = g k) :
    Calls Try.prog 10 #[.slice a n c1, .slice b n c2] w fun e w' => e = .returned (.bool true) ∧ Below w.heap.size w w' := by
  have H : Hid (∀ k, k < n → f k = g k) := h
  clear h
  go_enter Try.func10, Try.ntmps10
  go_wp2
  go_loopw [5] (fun i wr => ∃ k : Nat, k ≤ n ∧ i = .int .i64 k ∧ Below w.heap.size w wr) (fun i _ => n - (intOf i).toNat)
  case atStart => exact ⟨0, Nat.zero_le _, rfl, Below.refl _ _⟩
  case round =>
    obtain ⟨k, hk, rfl, p3⟩ := hrel
    by_cases hlt : k < n
    · obtain ⟨b1, o1, rfl, hb1, hc1⟩ := h1 (by omega)
      obtain ⟨b2, o2, rfl, hb2, hc2⟩ := h2 (by omega)
      have d1 := (p3.cell (p := ⟨b1, o1 + k, none⟩) hb1).trans (hc1 k hlt)
      have d2 := (p3.cell (p := ⟨b2, o2 + k, none⟩) hb2).trans (hc2 k hlt)
      rw [← H.out k hlt] at d2
      clear h1 h2 hc1 hc2
      go_wp2
      go_quiet (fail)
      go_wp2
      go_roundw
      case rel => exact ⟨k + 1, by omega, by go_num, ⟨p3.os, p3.tape, p3.output, p3.size, p3.block⟩⟩
      case measure => simp [intOf]; omega
    · obtain rfl : k = n := by omega
      clear h1 h2
      go_wp2
      go_ret
      exact ⟨rfl, p3⟩

def two (x y : Int) : Nat → Int := fun k => ([x, y] : List Int).getD k 0

theorem alloc_row (w : World) (B : Nat) (hB : B = w.heap.size) (x y : Int) : Row (w.alloc (.cells #[.int .i64 x, .int .i64 y] 3)) (some ⟨B, 0, none⟩) 2 (two x y) := by
  subst hB
  intro _
  refine ⟨w.heap.size, 0, rfl, by simp, fun k hk => ?_⟩
  match k, hk with
  | 0, _ => simp [go_sem, two]
  | 1, _ => simp [go_sem, two]

/-- A slice of integers that came in, as the statements' frame tells it. -/
theorem row_of {w : World} {a : Option Addr} {len cap : Nat} {zs : List Int} (h : (a = none ∧ len = 0 ∧ cap = 0 ∧ zs = []) ∨
    ∃ x, a = some x ∧ len ≤ cap ∧ cap ≤ maxLen ∧ zs.length = cap ∧ (∀ i, i < zs.length → w.cell? (x.add i) = some (.int .i64 (zs.getD i 0))) ∧ ∀ n ∈ zs, (Lit.int .i64 n).wf = true) :
    Row w a len (fun k => zs.getD k 0) := by
  rcases h with ⟨rfl, rfl, rfl, rfl⟩ | ⟨x, rfl, hl, hm, hz, hc, hw⟩
  · intro h; omega
  · intro hn
    obtain ⟨b, off, rfl, hc'⟩ := Go.ints_at hc (by omega)
    exact ⟨b, off, rfl, World.block_lt_of_cell? _ _ (hc' 0 (by omega)), fun k hk => hc' k (by omega)⟩
end Go.Proofs.Ytcombbkhdnipkaa
