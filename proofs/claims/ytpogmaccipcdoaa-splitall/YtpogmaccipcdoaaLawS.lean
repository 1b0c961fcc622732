/-
  What 'SplitScale' of the statements answers: true, for every total, all shares that lie in memory, and however many times they are taken. No other condition.
-/
import Derived.Test.YtpogmaccipcdoaaLawW
namespace Go.Proofs.Ytpogmaccipcdoaa
open Go.RowKit

/-- The first n of f, as cells. -/
def cellsOf (f : Nat → Int) (n : Nat) : List Value := (List.range n).map fun j => .int .i64 (f j)
theorem cellsOf_succ (f : Nat → Int) (n : Nat) : cellsOf f n ++ [.int .i64 (f n)] = cellsOf f (n + 1) := by simp [cellsOf, List.range_succ]
theorem cellsOf_get (f : Nat → Int) (n j : Nat) (h : j < n) : (cellsOf f n)[j]? = some (.int .i64 (f j)) := by simp [cellsOf, h]

/-- A slice that was appended to: what it reads. -/
theorem row_owned {w : World} {base : Nat} {v : Value} {n : Nat} {f : Nat → Int} (h : w.ownsRow base 3 1 v n (cellsOf f n)) : ∃ a cap, v = .slice a n cap ∧ Row w a n f := by
  rcases id h.2 with ⟨rfl, rfl⟩ | ⟨g, cap, cur, rfl, hb, hg, r⟩
  · exact ⟨none, 0, rfl, fun h => by omega⟩
  · refine ⟨some ⟨g, 0, none⟩, cap, rfl, fun hn => ⟨g, 0, rfl, (h.lt g rfl).2, fun k hk => ?_⟩⟩
    rw [Nat.zero_add, h.cellAt k (by omega), cellsOf_get f n k hk]

theorem one_new (w : World) (x : Int) : ∀ j u, ([.int .i64 x] : List Value)[j]? = some u → (w.alloc (.cells #[.int .i64 x] 3)).cell? ((⟨w.heap.size, 0, none⟩ : Addr).add j) = some u := by
  intro j u hj
  match j, hj with
  | 0, hj => simp at hj; subst hj; simp [Addr.add]
theorem one_cell (x : Int) : ∀ u ∈ ([.int .i64 x] : List Value), u.oneCell' = true := by
  intro u hu; simp at hu; subst hu; rfl

theorem scale_far (total times : Int) (a : Option Addr) (n cap : Nat) (w : World) (h : (16 : Int) < (n : Int) ∨ ((n : Int) ≤ 16 ∧ times < 1) ∨ ((n : Int) ≤ 16 ∧ 1 ≤ times ∧ 10000 < times)) :
    Calls Try.prog 7 #[.int .i64 total, .slice a n cap, .int .i64 times] w fun e w' => e = .returned (.bool true) ∧ Below w.heap.size w w' := by
  rcases h with h | ⟨h1, h2⟩ | ⟨h1, h2, h3⟩
  all_goals
    go_enter Try.func7, Try.ntmps7
    go_wp2_with (go_at_call 9; refine (awake_any _).mono ?_; rintro e w1 ⟨rfl, hb1⟩)
    go_ret; exact ⟨rfl, hb1⟩

set_option maxRecDepth 20000 in
set_option maxHeartbeats 1000000 in
theorem scale_near (total times : Int) (a : Option Addr) (n cap : Nat) (f : Nat → Int) (w : World) (hr : Row w a n f) (hn : n ≤ 16) (ht0 : 1 ≤ times) (ht1 : times ≤ 10000) :
    Calls Try.prog 7 #[.int .i64 total, .slice a n cap, .int .i64 times] w fun e w' => e = .returned (.bool true) ∧ Below w.heap.size w w' := by
  obtain ⟨i0, hi, hz0, hz1, hz2⟩ := info_parts Try.info3
  go_enter Try.func7, Try.ntmps7
  go_wp2_with (go_at_call 9; refine (awake_any _).mono ?_; rintro e w1 ⟨rfl, hb1⟩)
  have hr1 := hr.carry hb1
  clear hr
  go_loopw [7, 8] (fun v i wr => ∃ k : Nat, k ≤ n ∧ i = .int .i64 k ∧ wr.ownsRow w1.heap.size 3 1 v k (cellsOf (fun j => f j * times) k) ∧ Below w1.heap.size w1 wr ∧ Hid (∀ j, j < k → 0 ≤ f j ∧ f j ≤ 10000 ∧ f j * times ≤ 10000)) (fun _ i _ => n - (intOf i).toNat)
  case atStart => exact ⟨0, Nat.zero_le _, rfl, World.ownsRow_nil _ _ _ _, Below.refl _ _, fun j hj => absurd hj (Nat.not_lt_zero _)⟩
  case round =>
    obtain ⟨k, hk, rfl, hown, hb2, hall⟩ := hrel
    by_cases hlt : k < n
    · obtain ⟨sb, off, rfl, hsb, hc⟩ := hr1 (by omega)
      have hcell := (hb2.cell (p := ⟨sb, off + k, none⟩) hsb).trans (hc k hlt)
      clear hc hr1
      have hb3 : Below w.heap.size w wr := hb1.trans (hb2.mono hb1.size)
      by_cases c1 : f k < 0
      · go_wp2
        go_ret; exact ⟨rfl, hb3⟩
      by_cases c2 : 10000 < f k
      · go_wp2
        go_ret; exact ⟨rfl, hb3⟩
      have hm1 : 0 ≤ f k * times := Int.mul_nonneg (by omega) (by omega)
      have hm2 : f k * times ≤ 10000 * 10000 := Int.mul_le_mul (by omega) ht1 (by omega) (by omega)
      by_cases c3 : 10000 < f k * times
      · go_wp2
        go_ret; exact ⟨rfl, hb3⟩
      have hsz := hb2.size
      go_wp2_with (at_builtin; refine wpList_append_own _ rfl _ _ 22 rfl w1.heap.size 3 i0 (.int .i64 0) 1 8 Try.underlying22 hi hz0 hz1 hz2 rfl (by decide) _ _ _ rfl (hown.alloc _) ⟨wr.heap.size, 0, none⟩ 1 1 [.int .i64 (f k * times)] rfl rfl (one_new _ _) (one_cell _) (by unfold maxLen; omega) (by omega) (by simp; omega) ?_; intro v' w2 hown' hgrow _)
      rw [cellsOf_succ (fun j => f j * times) k] at hown'
      have hb4 : Below w1.heap.size w1 w2 := (hb2.alloc hb2.size _).grown hgrow (by simp; omega) (fun q e => (hown.lt q e).1)
      have hall' : Hid (∀ j, j < k + 1 → 0 ≤ f j ∧ f j ≤ 10000 ∧ f j * times ≤ 10000) := by
        intro j hj
        rcases Nat.lt_or_eq_of_le (Nat.le_of_lt_succ hj) with h | rfl
        · exact hall.out j h
        · exact ⟨by omega, by omega, by omega⟩
      clear hgrow hown hb2 hcell
      go_wp2
      go_roundw
      case rel => exact ⟨k + 1, by omega, by go_num, hown', hb4, hall'⟩
      case measure => simp [intOf]; omega
    · obtain rfl : k = n := by omega
      obtain ⟨ma, mc, rfl, hrm⟩ := row_owned hown
      have hr2 := hr1.carry hb2
      have hb3 : Below w.heap.size w wr := hb1.trans (hb2.mono hb1.size)
      have hs := refI_scale (total := total) (n := k) (f := f) (g := fun j => f j * times) (t := times) (by omega) (fun j hj => ⟨(hall.out j hj).1, (hall.out j hj).2.1⟩) (fun _ _ => rfl)
        (fun j hj => ⟨Int.mul_nonneg (hall.out j hj).1 (by omega), (hall.out j hj).2.2⟩)
      clear hown hr1 hb1 hb2
      by_cases z : refI total k f = 0
      · have hf := Fits.of z
        rw [z] at hs
        have hg := Fits.of hs
        have hp : ∀ j, j < k → part total k f j = part total k (fun j => f j * times) j := fun j hj => (part_scale (t := times) hf.pos (by omega) (fun _ _ => rfl) j hj).symm
        have HP : Hid (∀ j, j < k → part total k f j = part total k (fun j => f j * times) j) := hp
        clear hs z hp
        go_wp2_with fail
        go_at_call 11
        refine (split_yes _ _ _ _ _ _ hr2 hf).mono ?_
        rintro e w2 ⟨b, rfl, hb, o1, hb4⟩
        have hrm2 := hrm.carry hb4
        go_wp2_with fail
        go_at_call 11
        refine (split_yes _ _ _ _ _ _ hrm2 hg).mono ?_
        rintro e w3 ⟨c, rfl, hc, o2, hb5⟩
        have o3 := o1.carry hb5
        go_wp2_with (go_at_call 13; refine (same_yes _ _ _ _ _ _ _ _ o3.row o2.row (by omega) HP.out).mono ?_; rintro e w4 ⟨rfl, hb6⟩)
        go_ret
        have hb7 : Below w.heap.size w w2 := hb3.trans (hb4.mono hb3.size)
        have hb8 : Below w.heap.size w w3 := hb7.trans (hb5.mono hb7.size)
        exact ⟨rfl, hb8.trans (hb6.mono hb8.size)⟩
      · have z1 : (refI total k f == 0) = false := by simpa using z
        have z2 : (refI total k (fun j => f j * times) == 0) = false := by rw [hs]; exact z1
        have N := split_no total ma k mc (fun j => f j * times) wr hrm z2
        rw [hs] at N
        clear hs z z2
        go_wp2_with fail
        go_at_call 11
        refine (split_no _ _ _ _ _ _ hr2 z1).mono ?_
        rintro e w' ⟨rfl, hw⟩; obtain rfl := hw.symm
        go_wp2_with fail
        go_at_call 11
        refine N.mono ?_
        rintro e w' ⟨rfl, hw⟩; obtain rfl := hw.symm
        go_wp2_with (go_at_call 13; refine (same_yes none none 0 _ _ f f _ (fun h => absurd h (by omega)) (fun h => absurd h (by omega)) (by omega) (fun _ _ => rfl)).mono ?_; rintro e w4 ⟨rfl, hb6⟩)
        go_ret
        exact ⟨rfl, hb3.trans (hb6.mono hb3.size)⟩
end Go.Proofs.Ytpogmaccipcdoaa
