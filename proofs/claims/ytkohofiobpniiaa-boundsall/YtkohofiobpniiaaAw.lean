/-
  The fixed answer of the statements ('awake') is met. No condition.
-/
import Derived.Test.YtkohofiobpniiaaWq
namespace Go.Proofs.Ytkohofiobpniiaa
open Go.RowKit

def awA : Lv := ⟨⟨#[]⟩, 0, 3, 50, -1, 0, 0, 0, 0, 0⟩
def awB : Lv := ⟨⟨#[]⟩, 0, 1, 0, 20, 0, 0, 0, 0, 0⟩
def awL : Nat → Lv := fun k => if k = 0 then awA else awB
theorem aw_fits : Fits 10 2 (shr awL) := ⟨by decide, by decide, by decide, by decide, by decide⟩
theorem aw_in : ∀ k, k < 2 → InR (awL k) := fun k hk => by
  match k, hk with
  | 0, _ => exact ⟨by decide, by decide, by decide, by decide⟩
  | 1, _ => exact ⟨by decide, by decide, by decide, by decide⟩
theorem aw_bd : (bds 10 2 awL 0).nom = 8 ∧ (bds 10 2 awL 0).mn = 4 ∧ (bds 10 2 awL 0).mx = 10 := by decide
def awC : Array Value := #[.string ⟨#[]⟩, .int .i64 0, .int .i64 3, .int .i64 50, .int .i64 (-1), .int .i64 0, .int .i64 0, .int .i64 0, .int .i64 0, .int .i64 0, .string ⟨#[]⟩, .int .i64 0, .int .i64 1, .int .i64 0, .int .i64 20, .int .i64 0, .int .i64 0, .int .i64 0, .int .i64 0, .int .i64 0]
theorem aw_row {w : World} {g : Nat} (h : Blk w g 31 awC) : LvR w (some ⟨g, 0, none⟩) 2 awL := fun _ => by
  refine ⟨g, 0, rfl, h.lt, fun k hk j hj => ?_⟩
  rw [h.cell]
  match k, hk with
  | 0, _ =>
    match j, hj with
    | 0, _ => rfl
    | 1, _ => rfl
    | 2, _ => rfl
    | 3, _ => rfl
    | 4, _ => rfl
    | 5, _ => rfl
    | 6, _ => rfl
    | 7, _ => rfl
    | 8, _ => rfl
    | 9, _ => rfl
  | 1, _ =>
    match j, hj with
    | 0, _ => rfl
    | 1, _ => rfl
    | 2, _ => rfl
    | 3, _ => rfl
    | 4, _ => rfl
    | 5, _ => rfl
    | 6, _ => rfl
    | 7, _ => rfl
    | 8, _ => rfl
    | 9, _ => rfl
/-- What 'Bounds' answers, whichever it is. -/
theorem bounds_ok (total : Int) (a : Option Addr) (n cap : Nat) (l : Nat → Lv) (w : World) (hr : LvR w a n l) (hn : n ≤ 17592186044416) :
    Calls Try.prog 8 #[.int .i64 total, .slice a n cap] w fun e w' => BRes w total n l e w' := by
  by_cases z : refI total n (shr l) = 0
  · exact bounds_yes total a n cap l w hr (Fits.of z)
  · exact bounds_no total a n cap l w hr hn (by simpa using z)
/-- Where nothing is refused. -/
theorem BRes.yes {w w' : World} {total : Int} {n : Nat} {l : Nat → Lv} {e : Ending} (h : BRes w total n l e w') (hf : Fits total n (shr l)) (hi : ∀ k, k < n → InR (l k)) :
    ∃ a c, e = .returned (.tuple #[.slice a n c, .int .i64 0]) ∧ BdR w' a n (bds total n l) := by
  rcases h.ex with ⟨-, -, h⟩ | ⟨-, ⟨k, hk, hn⟩, -⟩ | ⟨hn, -⟩
  · exact h
  · exact absurd (hi k hk) hn
  · rw [hf.none] at hn; simp at hn

set_option maxHeartbeats 1000000 in
theorem awake_ok (w : World) : Calls Try.prog 7 #[] w fun e w' => e = .returned (.bool true) ∧ Below w.heap.size w w' := by
  obtain ⟨w1, hw1⟩ : ∃ w1, w1 = w.alloc (.cells awC 31) := ⟨_, rfl⟩
  have B1 : Hd (Below w.heap.size w w1) := ⟨by rw [hw1]; exact alloc_below _ _⟩
  have N1 : Blk w1 w.heap.size 31 awC := by rw [hw1]; exact Blk.new _ _ _
  have I := bounds_ok 10 (some ⟨w.heap.size, 0, none⟩) 2 2 awL w1 (aw_row N1) (by decide)
  clear N1
  unfold awC at hw1
  go_enter Try.func7, Try.ntmps7
  go_wp2_with fail
  rw [← hw1]
  clear hw1
  go_at_call 8
  refine I.mono ?_
  rintro e w2 hres
  have B2 : Hd (Below w.heap.size w w2) := ⟨B1.out.trans (hres.bel.mono B1.out.size)⟩
  obtain ⟨a, c, rfl, hb⟩ := hres.yes aw_fits aw_in
  obtain ⟨b, off, rfl, hlt, hc⟩ := hb (by decide)
  obtain ⟨r0, r1, r2⟩ := hc 0 (by decide)
  obtain ⟨e0, e1, e2⟩ := aw_bd
  rw [e0, Nat.zero_mul, Nat.add_zero] at r0
  rw [e1, Nat.zero_mul, Nat.add_zero] at r1
  rw [e2, Nat.zero_mul, Nat.add_zero] at r2
  clear e0 e1 e2 hc hb hres B1 I
  go_wp2_with fail
  go_ret
  exact ⟨rfl, B2.out⟩
end Go.Proofs.Ytkohofiobpniiaa
