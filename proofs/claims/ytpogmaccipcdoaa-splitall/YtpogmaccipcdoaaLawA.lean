/-
  What 'Copy' of the reference and 'SplitAll' of the statements answer: true, for every total and all shares that lie in memory. No other condition.
-/
import Derived.Test.YtpogmaccipcdoaaWalkG
import Derived.Laws.AppendOwnNone
namespace Go.Proofs.Ytpogmaccipcdoaa
open Go.RowKit

theorem cells_at {w : World} {x : Addr} {n : Nat} {f : Nat → Int} (h : Row w (some x) n f) : ∀ j u, (cellsOf f n)[j]? = some u → w.cell? (x.add j) = some u := by
  intro j u hj
  have hl : j < n := by
    by_cases c : j < n
    · exact c
    · rw [List.getElem?_eq_none (by simp [cellsOf]; omega)] at hj; cases hj
  rw [cellsOf_get f n j hl] at hj
  obtain ⟨b, off, e, _, hc⟩ := h (by omega)
  cases e
  rw [Go.WideShapes.add_plain, hc j hl]
  exact hj
theorem cells_one (f : Nat → Int) (n : Nat) : ∀ u ∈ cellsOf f n, u.oneCell' = true := by
  intro u hu
  simp [cellsOf] at hu
  obtain ⟨j, _, rfl⟩ := hu
  rfl

theorem copy_any (a : Option Addr) (n cap : Nat) (f : Nat → Int) (w : World) (hr : Row w a n f) (hc : a = none → n = 0 ∧ cap = 0) (hn : n ≤ 64) :
    Calls Try.prog 10 #[.slice a n cap] w fun e w' => ∃ v, e = .returned v ∧ w'.ownsRow w.heap.size 3 1 v n (cellsOf f n) ∧ Below w.heap.size w w' := by
  obtain ⟨i0, hi, hz0, hz1, hz2⟩ := info_parts Try.info3
  have hown : (w.alloc (.cells #[] 3)).ownsRow w.heap.size 3 1 (.slice (some ⟨w.heap.size, 0, none⟩) 0 0) 0 [] := World.ownsRow_lit (e := 3) w #[] 0 (Nat.le_refl _) (by unfold maxLen; omega) rfl
  have hrA : Row (w.alloc (.cells #[] 3)) a n f := hr.carry ((Below.refl _ _).alloc (Nat.le_refl _) _)
  have hbA : Below w.heap.size w (w.alloc (.cells #[] 3)) := (Below.refl _ _).alloc (Nat.le_refl _) _
  cases a with
  | none =>
    obtain ⟨rfl, rfl⟩ := hc rfl
    go_enter Try.func10, Try.ntmps10
    go_wp2_with (at_builtin; refine wpList_append_own_none rfl _ _ 22 rfl w.heap.size 3 i0 1 Try.underlying22 hi _ _ _ rfl hown rfl ?_)
    go_ret
    exact ⟨_, rfl, hown, hbA⟩
  | some x =>
    go_enter Try.func10, Try.ntmps10
    go_wp2_with (at_builtin; refine wpList_append_own _ rfl _ _ 22 rfl w.heap.size 3 i0 (.int .i64 0) 1 8 Try.underlying22 hi hz0 hz1 hz2 rfl (by decide) _ _ _ rfl hown x n cap (cellsOf f n) rfl (by simp [cellsOf]) (cells_at hrA) (cells_one f n) (by unfold maxLen; omega) (by omega) (by simp) ?_; intro v' w2 hown' hgrow _)
    go_ret
    rw [Nat.zero_add, List.nil_append] at hown'
    exact ⟨_, rfl, hown', hbA.grown hgrow (by simp) (fun q e => (hown.lt q e).1)⟩

theorem all_far (total : Int) (a : Option Addr) (n cap : Nat) (w : World) (h : (64 : Int) < (n : Int)) :
    Calls Try.prog 3 #[.int .i64 total, .slice a n cap] w fun e w' => e = .returned (.bool true) ∧ Below w.heap.size w w' := by
  go_enter Try.func3, Try.ntmps3
  go_wp2_with (go_at_call 9; refine (awake_any _).mono ?_; rintro e w1 ⟨rfl, hb1⟩)
  go_ret; exact ⟨rfl, hb1⟩

/-- The shares, and 7 behind them. -/
theorem mine {w : World} {B g c n : Nat} {f : Nat → Int} (h : w.ownsRow B 3 1 (.slice (some ⟨g, 0, none⟩) (n + 1) c) (n + 1) (cellsOf f n ++ [.int .i64 7])) :
    Row w (some ⟨g, 0, none⟩) n f ∧ w.cell? ⟨g, n, none⟩ = some (.int .i64 7) ∧ n + 1 ≤ c ∧ g < w.heap.size := by
  have hl : (cellsOf f n).length = n := by simp [cellsOf]
  refine ⟨fun hn => ⟨g, 0, rfl, (h.lt g rfl).2, fun k hk => ?_⟩, ?_, ?_, (h.lt g rfl).2⟩
  · rw [Nat.zero_add, h.cellAt k (by omega), List.getElem?_append_left (by omega), cellsOf_get f n k hk]
  · rw [h.cellAt n (by omega), List.getElem?_append_right (by omega), hl]; simp
  · rcases h.2 with ⟨h', _⟩ | ⟨g', cap', cur, h', _, _, hnc, _⟩
    · simp at h'
    · simp at h'; omega

set_option maxRecDepth 20000 in
set_option maxHeartbeats 1000000 in
theorem all_near (total : Int) (a : Option Addr) (n cap : Nat) (f : Nat → Int) (w : World) (hr : Row w a n f) (hc : a = none → n = 0 ∧ cap = 0) (hn : n ≤ 64) :
    Calls Try.prog 3 #[.int .i64 total, .slice a n cap] w fun e w' => e = .returned (.bool true) ∧ Below w.heap.size w w' := by
  obtain ⟨i0, hi, hz0, hz1, hz2⟩ := info_parts Try.info3
  go_enter Try.func3, Try.ntmps3
  go_wp2_with (first
    | (go_at_call 9; refine (awake_any _).mono ?_; rintro e w1 ⟨rfl, hb1⟩; have hr1 := hr.carry hb1; have hs1 := hb1.size)
    | (go_at_call 10; refine (copy_any _ _ _ f _ hr1 hc hn).mono ?_; rintro e w2 ⟨v, rfl, hown, hb2⟩; have hs2 := hb2.size)
    | (at_builtin; refine wpList_append_lies _ rfl (.tmp 16) (.tmp 17) 22 rfl w1.heap.size 3 i0 (.int .i64 0) 1 8 Try.underlying22 hi hz0 hz1 hz2 rfl (by decide) _ _ _ rfl (hown.alloc _) ⟨w2.heap.size, 0, none⟩ 1 1 [.int .i64 7] rfl rfl (one_new _ _) (one_cell _) (by decide) (by unfold maxLen; omega) (by omega) (by simp; omega) _ rfl ?_; intro g c w3 hown3 hgrow3 hat3 hlt3; obtain ⟨hm1, hm2, hm3, hm4⟩ := mine hown3))
  have hb2' : Below w.heap.size w w2 := hb1.trans (hb2.mono hs1)
  have hb3 : Below w.heap.size w w3 := (hb2'.alloc hb2'.size _).grown hgrow3 (by simp; omega) (fun q e => by have := (hown.lt q e).1; omega)
  have hr3 : Row w3 a n f := hr.carry hb3
  clear hown hown3 hgrow3 hat3 hb1 hb2 hb2' hr1 hr
  by_cases z : refI total n f = 0
  · have hf := Fits.of z
    clear z
    go_at_call 11
    refine (split_yes _ _ _ _ _ _ hm1 hf).mono ?_
    rintro e w4 ⟨b, rfl, hb, o1, hb4⟩
    have hr4 := hr3.carry hb4
    go_wp2_with fail
    go_at_call 12
    refine (ref_yes _ _ _ _ _ _ hr4 hf).mono ?_
    rintro e w5 ⟨ra, rc, rfl, o2, hb5⟩
    have o1' := o1.carry hb5
    have hr5 := hr4.carry hb5
    have hm5 := (hm1.carry hb4).carry hb5
    go_wp2_with fail
    go_at_call 13
    refine (same_yes _ _ _ _ _ _ _ _ o1'.row o2 (by omega) (fun _ _ => rfl)).mono ?_
    rintro e w6 ⟨rfl, hb6⟩
    go_wp2_with fail
    go_at_call 13
    refine (same_yes _ _ _ _ _ _ _ _ (hm5.carry hb6) (hr5.carry hb6) (by omega) (fun _ _ => rfl)).mono ?_
    rintro e w7 ⟨rfl, hb7⟩
    have hb34 : Below w3.heap.size w3 w7 := ((hb4.trans (hb5.mono hb4.size)).trans (hb6.mono (Nat.le_trans hb4.size hb5.size))).trans (hb7.mono (Nat.le_trans (Nat.le_trans hb4.size hb5.size) hb6.size))
    have hcell := (hb34.cell (p := ⟨g, n, none⟩) hm4).trans hm2
    clear hm1 hm2 hr3 hr4 hr5 hm5 o1 o1' o2 hf hb4 hb5 hb6 hb7
    go_wp2
    go_ret
    exact ⟨rfl, hb3.trans (hb34.mono hb3.size)⟩
  · have z1 : (refI total n f == 0) = false := by simpa using z
    clear z
    go_at_call 11
    refine (split_no _ _ _ _ _ _ hm1 z1).mono ?_
    rintro e w' ⟨rfl, hw⟩; obtain rfl := hw.symm
    go_wp2_with fail
    go_at_call 12
    refine (ref_no _ _ _ _ _ _ hr3 z1).mono ?_
    rintro e w' ⟨rfl, hw⟩; obtain rfl := hw.symm
    go_wp2_with fail
    go_at_call 13
    refine (same_yes none none 0 _ _ f f _ (fun h => absurd h (by omega)) (fun h => absurd h (by omega)) (by omega) (fun _ _ => rfl)).mono ?_
    rintro e w6 ⟨rfl, hb6⟩
    go_wp2_with fail
    go_at_call 13
    refine (same_yes _ _ _ _ _ _ _ _ (hm1.carry hb6) (hr3.carry hb6) (by omega) (fun _ _ => rfl)).mono ?_
    rintro e w7 ⟨rfl, hb7⟩
    have hb34 : Below w3.heap.size w3 w7 := hb6.trans (hb7.mono hb6.size)
    have hcell := (hb34.cell (p := ⟨g, n, none⟩) hm4).trans hm2
    clear hm1 hm2 hr3 hb6 hb7
    go_wp2
    go_ret
    exact ⟨rfl, hb3.trans (hb34.mono hb3.size)⟩
end Go.Proofs.Ytpogmaccipcdoaa
