/-
  What 'Same', 'Copy', 'long' of the statements and of the reference answer; that the fixed answer of the statements ('awake') is met. Conditions: the lists lie in memory.
-/
import Derived.Test.YtmmhfpajnjbjaaaWalkC
import Derived.Laws.AppendOwnNone
namespace Go.Proofs.Ytmmhfpajnjbjaaa
open Go.RowKit

theorem same_yes (a b : Option Addr) (n c1 c2 : Nat) (f g : Nat → Int) (w : World) (h1 : Row w a n f) (h2 : Row w b n g) (hn : n ≤ 9223372036854775807) (h : ∀ k, k < n → f k = g k) :
    Calls Try.prog 14 #[.slice a n c1, .slice b n c2] w fun e w' => e = .returned (.bool true) ∧ Below w.heap.size w w' := by
  have H : Hid (∀ k, k < n → f k = g k) := h
  clear h
  go_enter Try.func14, Try.ntmps14
  go_wp2
  go_loopw [5] (fun i wr => ∃ k : Nat, k ≤ n ∧ i = .int .i64 k ∧ Below w.heap.size w wr) (fun i _ => n - (intOf i).toNat)
  case atStart => exact ⟨0, Nat.zero_le _, rfl, Below.refl _ _⟩
  case round =>
    obtain ⟨k, hk, rfl, p3⟩ := hrel
    by_cases hlt : k < n
    · obtain ⟨b1, o1, rfl, hb1, hc1⟩ := h1 (by omega)
      obtain ⟨b2, o2, rfl, hb2, hc2⟩ := h2 (by omega)
      have d1 := (p3.cell (p := ⟨b1, o1 + k, none⟩) hb1).trans (hc1 k hlt)
      have d2 := (p3.cell (p := ⟨b2, o2 + k, none⟩) hb2).trans (hc2 k hlt)
      rw [← H.out k hlt] at d2
      clear h1 h2 hc1 hc2
      go_wp2
      go_quiet (fail)
      go_wp2
      go_roundw
      case rel => exact ⟨k + 1, by omega, by go_num, ⟨p3.os, p3.tape, p3.output, p3.size, p3.block⟩⟩
      case measure => simp [intOf]; omega
    · obtain rfl : k = n := by omega
      clear h1 h2
      go_wp2
      go_ret
      exact ⟨rfl, p3⟩

theorem copy_any (a : Option Addr) (n cap : Nat) (f : Nat → Int) (w : World) (hr : Row w a n f) (hc : a = none → n = 0 ∧ cap = 0) (hn : n ≤ 64) :
    Calls Try.prog 11 #[.slice a n cap] w fun e w' => ∃ g c, e = .returned (.slice (some ⟨g, 0, none⟩) n c) ∧ w.heap.size ≤ g ∧ Own w' g n f ∧ Below w.heap.size w w' := by
  obtain ⟨i0, hi, hz0, hz1, hz2⟩ := info_parts Try.info3
  have hown : (w.alloc (.cells #[] 3)).ownsRow w.heap.size 3 1 (.slice (some ⟨w.heap.size, 0, none⟩) 0 0) 0 [] := World.ownsRow_lit (e := 3) w #[] 0 (Nat.le_refl _) (by unfold maxLen; omega) rfl
  have hrA : Row (w.alloc (.cells #[] 3)) a n f := hr.carry ((Below.refl _ _).alloc (Nat.le_refl _) _)
  have hbA : Below w.heap.size w (w.alloc (.cells #[] 3)) := (Below.refl _ _).alloc (Nat.le_refl _) _
  cases a with
  | none =>
    obtain ⟨rfl, rfl⟩ := hc rfl
    go_enter Try.func11, Try.ntmps11
    go_wp2_with (at_builtin; refine wpList_append_own_none rfl _ _ 22 rfl w.heap.size 3 i0 1 Try.underlying22 hi _ _ _ rfl hown rfl ?_)
    go_ret
    exact ⟨_, ⟨_, rfl⟩, Nat.le_refl _, ⟨by simp, fun k hk => by omega⟩, hbA⟩
  | some x =>
    go_enter Try.func11, Try.ntmps11
    go_wp2_with (at_builtin; refine wpList_append_own _ rfl _ _ 22 rfl w.heap.size 3 i0 (.int .i64 0) 1 8 Try.underlying22 hi hz0 hz1 hz2 rfl (by decide) _ _ _ rfl hown x n cap (cellsOf f n) rfl (by simp [cellsOf]) (cells_at hrA) (cells_one f n) (by unfold maxLen; omega) (by omega) (by simp) ?_; intro v' w2 hown' hgrow hnil)
    go_ret
    rw [Nat.zero_add, List.nil_append] at hown'
    have hb2 : Below w.heap.size w w2 := hbA.grown hgrow (by simp) (fun q e => (hown.lt q e).1)
    rcases id hown'.2 with ⟨h', _⟩ | ⟨g', cap', cur, rfl, hg', _⟩
    · exact absurd (hnil.1 h').1 (by simp [go_sem])
    · exact ⟨_, _, rfl, hg', Own.owned hown', hb2⟩

theorem long_any (a b d : Option Addr) (n m l c1 c2 c3 : Nat) (w : World) :
    Calls Try.prog 10 #[.slice a n c1, .slice b m c2, .slice d l c3] w fun e w' => e = .returned (.bool (decide ((64 : Int) < (n : Int) ∨ (64 : Int) < (m : Int) ∨ (64 : Int) < (l : Int)))) ∧ w' = w := by
  by_cases t1 : (64 : Int) < (n : Int)
  · have e : decide ((64 : Int) < (n : Int) ∨ (64 : Int) < (m : Int) ∨ (64 : Int) < (l : Int)) = true := by simp; omega
    rw [e]; clear e
    go_enter Try.func10, Try.ntmps10
    go_wp2
    go_ret; exact ⟨rfl, rfl⟩
  by_cases t2 : (64 : Int) < (m : Int)
  · have e : decide ((64 : Int) < (n : Int) ∨ (64 : Int) < (m : Int) ∨ (64 : Int) < (l : Int)) = true := by simp; omega
    rw [e]; clear e
    go_enter Try.func10, Try.ntmps10
    go_wp2
    go_ret; exact ⟨rfl, rfl⟩
  by_cases t3 : (64 : Int) < (l : Int)
  · have e : decide ((64 : Int) < (n : Int) ∨ (64 : Int) < (m : Int) ∨ (64 : Int) < (l : Int)) = true := by simp; omega
    rw [e]; clear e
    go_enter Try.func10, Try.ntmps10
    go_wp2
    go_ret; exact ⟨rfl, rfl⟩
  have e : decide ((64 : Int) < (n : Int) ∨ (64 : Int) < (m : Int) ∨ (64 : Int) < (l : Int)) = false := by simp; omega
  rw [e]; clear e
  go_enter Try.func10, Try.ntmps10
  go_wp2
  go_ret; exact ⟨rfl, rfl⟩

def two (x y : Int) : Nat → Int := fun k => ([x, y] : List Int).getD k 0

theorem aw_fits : Fits 10 2 (two 0 4) (two 10 10) (two 9 4) := ⟨by decide, by decide, by decide, by decide, by decide, by decide⟩
theorem aw_part : ∀ k, k < 2 → part 10 2 (two 0 4) (two 10 10) (two 9 4) k = two 6 4 k := by decide

theorem alloc_row (w : World) (B : Nat) (hB : B = w.heap.size) (x y : Int) : Row (w.alloc (.cells #[.int .i64 x, .int .i64 y] 3)) (some ⟨B, 0, none⟩) 2 (two x y) := by
  subst hB
  intro _
  refine ⟨w.heap.size, 0, rfl, by simp, fun k hk => ?_⟩
  match k, hk with
  | 0, _ => simp [go_sem, two]
  | 1, _ => simp [go_sem, two]

theorem alloc_below (w : World) (o : Obj) : Below w.heap.size w (w.alloc o) := (Below.refl _ _).alloc (Nat.le_refl _) _

theorem awake_any (w : World) : Calls Try.prog 9 #[] w fun e w' => e = .returned (.bool true) ∧ Below w.heap.size w w' := by
  have h1 := alloc_row w w.heap.size rfl 0 4
  have h2 := alloc_row (w.alloc (.cells #[.int .i64 0, .int .i64 4] 3)) (w.heap.size + 1) (by simp) 10 10
  have h3 := alloc_row ((w.alloc (.cells #[.int .i64 0, .int .i64 4] 3)).alloc (.cells #[.int .i64 10, .int .i64 10] 3)) (w.heap.size + 1 + 1) (by simp) 9 4
  have b1 := alloc_below w (.cells #[.int .i64 0, .int .i64 4] 3)
  have b2 := alloc_below (w.alloc (.cells #[.int .i64 0, .int .i64 4] 3)) (.cells #[.int .i64 10, .int .i64 10] 3)
  have b3 := alloc_below ((w.alloc (.cells #[.int .i64 0, .int .i64 4] 3)).alloc (.cells #[.int .i64 10, .int .i64 10] 3)) (.cells #[.int .i64 9, .int .i64 4] 3)
  have S := spread_yes 10 _ _ _ 2 2 2 2 _ _ _ _ ((h1.carry b2).carry b3) (h2.carry b3) h3 aw_fits
  have bb : Below w.heap.size w _ := (b1.trans (b2.mono b1.size)).trans (b3.mono (Nat.le_trans b1.size b2.size))
  have sz := bb.size
  clear h1 h2 h3 b1 b2 b3
  go_enter Try.func9, Try.ntmps9
  go_wp2_with fail
  go_at_call 12
  refine S.mono ?_
  rintro e w1 ⟨g, rfl, hg, o1, hbel⟩
  have b4 : Below w.heap.size w w1 := bb.trans (hbel.mono sz)
  have h2 := (o1.congr aw_part).row
  have h3 := alloc_row w1 w1.heap.size rfl 6 4
  clear S bb sz hbel o1
  go_wp2_with (go_at_call 14; refine (same_yes _ _ _ _ _ _ _ _ (h2.carry (alloc_below _ _)) h3 (by decide) (fun _ _ => rfl)).mono ?_; rintro e w2 ⟨rfl, hbel2⟩)
  go_ret
  refine ⟨rfl, ?_⟩
  have b5 := b4.alloc b4.size (.cells #[.int .i64 6, .int .i64 4] 3)
  exact b5.trans (hbel2.mono b5.size)

/-- A slice of integers that came in, as the statements' frame tells it. -/
theorem row_of {w : World} {a : Option Addr} {len cap : Nat} {zs : List Int} (h : (a = none ∧ len = 0 ∧ cap = 0 ∧ zs = []) ∨
    ∃ x, a = some x ∧ len ≤ cap ∧ cap ≤ maxLen ∧ zs.length = cap ∧ (∀ i, i < zs.length → w.cell? (x.add i) = some (.int .i64 (zs.getD i 0))) ∧ ∀ n ∈ zs, (Lit.int .i64 n).wf = true) :
    Row w a len (fun k => zs.getD k 0) := by
  rcases h with ⟨rfl, rfl, rfl, rfl⟩ | ⟨x, rfl, hl, hm, hz, hc, hw⟩
  · intro h; omega
  · intro hn
    obtain ⟨b, off, rfl, hc'⟩ := Go.ints_at hc (by omega)
    exact ⟨b, off, rfl, World.block_lt_of_cell? _ _ (hc' 0 (by omega)), fun k hk => hc' k (by omega)⟩
end Go.Proofs.Ytmmhfpajnjbjaaa
