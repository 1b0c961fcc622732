/-
  What 'SpreadAll' of the statements answers: true, for every total and all lists that lie in memory. No other condition.
-/
import Derived.Test.YtmmhfpajnjbjaaaWalkF
namespace Go.Proofs.Ytmmhfpajnjbjaaa
open Go.RowKit

theorem none_of {w : World} {a : Option Addr} {len cap : Nat} {zs : List Int} (h : (a = none ∧ len = 0 ∧ cap = 0 ∧ zs = []) ∨
    ∃ x, a = some x ∧ len ≤ cap ∧ cap ≤ maxLen ∧ zs.length = cap ∧ (∀ i, i < zs.length → w.cell? (x.add i) = some (.int .i64 (zs.getD i 0))) ∧ ∀ n ∈ zs, (Lit.int .i64 n).wf = true) :
    a = none → len = 0 ∧ cap = 0 := by
  rintro rfl
  rcases h with ⟨_, h1, h2, _⟩ | ⟨x, h, _⟩
  · exact ⟨h1, h2⟩
  · cases h

theorem all_far (total : Int) (a b d : Option Addr) (n m l c1 c2 c3 : Nat) (w : World) (h : (64 : Int) < (n : Int) ∨ (64 : Int) < (m : Int) ∨ (64 : Int) < (l : Int)) :
    Calls Try.prog 3 #[.int .i64 total, .slice a n c1, .slice b m c2, .slice d l c3] w fun e w' => e = .returned (.bool true) ∧ Below w.heap.size w w' := by
  have L := fun v => long_any a b d n m l c1 c2 c3 v
  rw [decide_eq_true h] at L
  go_enter Try.func3, Try.ntmps3
  go_wp2_with (first
    | (go_at_call 9; refine (awake_any _).mono ?_; rintro e w1 ⟨rfl, hb1⟩)
    | (go_at_call 10; refine (L _).mono ?_; rintro e w' ⟨rfl, hw⟩; obtain rfl := hw.symm))
  go_ret; exact ⟨rfl, hb1⟩

set_option maxRecDepth 20000 in
set_option maxHeartbeats 2000000 in
theorem all_near (total : Int) (a b d : Option Addr) (n m l c1 c2 c3 : Nat) (lo hi want : Nat → Int) (w : World) (r1 : Row w a n lo) (r2 : Row w b m hi) (r3 : Row w d l want)
    (k1 : a = none → n = 0 ∧ c1 = 0) (k2 : b = none → m = 0 ∧ c2 = 0) (k3 : d = none → l = 0 ∧ c3 = 0) (hn : n ≤ 64) (hm : m ≤ 64) (hl : l ≤ 64) :
    Calls Try.prog 3 #[.int .i64 total, .slice a n c1, .slice b m c2, .slice d l c3] w fun e w' => e = .returned (.bool true) ∧ Below w.heap.size w w' := by
  have L := fun v => long_any a b d n m l c1 c2 c3 v
  rw [decide_eq_false (show ¬ ((64 : Int) < (n : Int) ∨ (64 : Int) < (m : Int) ∨ (64 : Int) < (l : Int)) by omega)] at L
  go_enter Try.func3, Try.ntmps3
  go_wp2_with (first
    | (go_at_call 9; refine (awake_any _).mono ?_; rintro e w1 ⟨rfl, hb1⟩)
    | (go_at_call 10; refine (L _).mono ?_; rintro e w' ⟨rfl, hw⟩; obtain rfl := hw.symm))
  go_at_call 11
  refine (copy_any _ _ _ lo _ (r1.carry hb1) k1 hn).mono ?_
  rintro e w2 ⟨g1, x1, rfl, hg1, o1, hb2⟩
  have e2 := hb1.trans (hb2.mono hb1.size)
  go_wp2_with fail
  go_at_call 11
  refine (copy_any _ _ _ hi _ (r2.carry e2) k2 hm).mono ?_
  rintro e w3 ⟨g2, x2, rfl, hg2, o2, hb3⟩
  have e3 := e2.trans (hb3.mono e2.size)
  go_wp2_with fail
  go_at_call 11
  refine (copy_any _ _ _ want _ (r3.carry e3) k3 hl).mono ?_
  rintro e w4 ⟨g3, x3, rfl, hg3, o3, hb4⟩
  have e4 := e3.trans (hb4.mono e3.size)
  have m1 := ((o1.carry hb3).carry hb4).row
  have m2 := (o2.carry hb4).row
  have m3 := o3.row
  have q1 := r1.carry e4
  have q2 := r2.carry e4
  have q3 := r3.carry e4
  clear o1 o2 o3 hb1 hb2 hb3 hb4 e2 e3 L r1 r2 r3 hg1 hg2 hg3
  by_cases z : refI total n m l lo hi want = 0
  · obtain ⟨rfl, rfl, hf⟩ := refI_zero z
    clear z
    go_wp2_with fail
    go_at_call 12
    refine (spread_yes _ _ _ _ _ _ _ _ _ _ _ _ m1 m2 m3 hf).mono ?_
    rintro e w5 ⟨g, rfl, hg, o, hb5⟩
    go_wp2_with fail
    go_at_call 13
    refine (ref_yes _ _ _ _ _ _ _ _ _ _ _ _ (q1.carry hb5) (q2.carry hb5) (q3.carry hb5) k1 hf).mono ?_
    rintro e w6 ⟨ra, rc, rfl, ro, hb6⟩
    have f6 := hb5.trans (hb6.mono hb5.size)
    go_wp2_with fail
    go_at_call 14
    refine (same_yes _ _ _ _ _ _ _ _ (o.carry hb6).row ro (by omega) (fun _ _ => rfl)).mono ?_
    rintro e w7 ⟨rfl, hb7⟩
    have f7 := f6.trans (hb7.mono f6.size)
    go_wp2_with fail
    go_at_call 14
    refine (same_yes _ _ _ _ _ _ _ _ (m1.carry f7) (q1.carry f7) (by omega) (fun _ _ => rfl)).mono ?_
    rintro e w8 ⟨rfl, hb8⟩
    have f8 := f7.trans (hb8.mono f7.size)
    go_wp2_with fail
    go_at_call 14
    refine (same_yes _ _ _ _ _ _ _ _ (m2.carry f8) (q2.carry f8) (by omega) (fun _ _ => rfl)).mono ?_
    rintro e w9 ⟨rfl, hb9⟩
    have f9 := f8.trans (hb9.mono f8.size)
    go_wp2_with fail
    go_at_call 14
    refine (same_yes _ _ _ _ _ _ _ _ (m3.carry f9) (q3.carry f9) (by omega) (fun _ _ => rfl)).mono ?_
    rintro e w10 ⟨rfl, hb10⟩
    have f10 := f9.trans (hb10.mono f9.size)
    have f11 := e4.trans (f10.mono e4.size)
    clear m1 m2 m3 q1 q2 q3 o ro hb5 hb6 hb7 hb8 hb9 hb10 f6 f7 f8 f9 f10 hf
    go_wp2
    go_ret; exact ⟨rfl, f11⟩
  · have z1 : (refI total n m l lo hi want == 0) = false := by simpa using z
    clear z
    go_wp2_with fail
    go_at_call 12
    refine (spread_no _ _ _ _ _ _ _ _ _ _ _ _ _ _ m1 m2 m3 z1).mono ?_
    rintro e w5 ⟨rfl, hb5⟩
    go_wp2_with fail
    go_at_call 13
    refine (ref_no _ _ _ _ _ _ _ _ _ _ _ _ _ _ (q1.carry hb5) (q2.carry hb5) (q3.carry hb5) z1).mono ?_
    rintro e w6 ⟨rfl, hb6⟩
    have f6 := hb5.trans (hb6.mono hb5.size)
    go_wp2_with fail
    go_at_call 14
    refine (same_yes none none 0 _ _ lo lo _ (fun h => absurd h (by omega)) (fun h => absurd h (by omega)) (by omega) (fun _ _ => rfl)).mono ?_
    rintro e w7 ⟨rfl, hb7⟩
    have f7 := f6.trans (hb7.mono f6.size)
    go_wp2_with fail
    go_at_call 14
    refine (same_yes _ _ _ _ _ _ _ _ (m1.carry f7) (q1.carry f7) (by omega) (fun _ _ => rfl)).mono ?_
    rintro e w8 ⟨rfl, hb8⟩
    have f8 := f7.trans (hb8.mono f7.size)
    go_wp2_with fail
    go_at_call 14
    refine (same_yes _ _ _ _ _ _ _ _ (m2.carry f8) (q2.carry f8) (by omega) (fun _ _ => rfl)).mono ?_
    rintro e w9 ⟨rfl, hb9⟩
    have f9 := f8.trans (hb9.mono f8.size)
    go_wp2_with fail
    go_at_call 14
    refine (same_yes _ _ _ _ _ _ _ _ (m3.carry f9) (q3.carry f9) (by omega) (fun _ _ => rfl)).mono ?_
    rintro e w10 ⟨rfl, hb10⟩
    have f10 := f9.trans (hb10.mono f9.size)
    have f11 := e4.trans (f10.mono e4.size)
    clear m1 m2 m3 q1 q2 q3 hb5 hb6 hb7 hb8 hb9 hb10 f6 f7 f8 f9 f10
    go_wp2
    go_ret; exact ⟨rfl, f11⟩

theorem all_any (total : Int) (a b d : Option Addr) (n m l c1 c2 c3 : Nat) (lo hi want : Nat → Int) (w : World) (r1 : Row w a n lo) (r2 : Row w b m hi) (r3 : Row w d l want)
    (k1 : a = none → n = 0 ∧ c1 = 0) (k2 : b = none → m = 0 ∧ c2 = 0) (k3 : d = none → l = 0 ∧ c3 = 0) :
    Calls Try.prog 3 #[.int .i64 total, .slice a n c1, .slice b m c2, .slice d l c3] w fun e w' => e = .returned (.bool true) ∧ Below w.heap.size w w' := by
  by_cases t : (64 : Int) < (n : Int) ∨ (64 : Int) < (m : Int) ∨ (64 : Int) < (l : Int)
  · exact all_far _ _ _ _ _ _ _ _ _ _ _ t
  · exact all_near _ _ _ _ _ _ _ _ _ _ _ _ _ _ r1 r2 r3 k1 k2 k3 (by omega) (by omega) (by omega)
end Go.Proofs.Ytmmhfpajnjbjaaa
