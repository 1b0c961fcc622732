/-
  The fixed answer of the statements ('awake') is met. No condition.
-/
import Derived.Test.YtcombbkhdnipkaaWt
namespace Go.Proofs.Ytcombbkhdnipkaa
open Go.RowKit

def awG : Nat → Bd := fun k => if k = 0 then ⟨8, 4, 10⟩ else ⟨2, 2, 10⟩
def awD : Nat → Dm := fun k => if k = 0 then ⟨0, 0⟩ else ⟨0, 9⟩
theorem aw_fits : Fits 10 2 (mns awG) (mxs awG) (sms awD) := ⟨by decide, by decide, by decide, by decide, by decide, by decide⟩
theorem aw_part : ∀ k, k < 2 → part 10 2 (mns awG) (mxs awG) (sms awD) k = two 4 6 k := by decide
theorem aw_in : ∀ k, k < min 2 2 → (0 ≤ noms awG k ∧ noms awG k ≤ 4096) ∧ 0 ≤ two 4 6 k ∧ two 4 6 k ≤ 4096 := by decide
theorem aw_lent : sumTo (lentF (noms awG) (two 4 6)) (min 2 2) = 4 ∧ sumTo (borF (noms awG) (two 4 6)) (min 2 2) = 4 := by decide
theorem Row.congr {w : World} {a : Option Addr} {n : Nat} {f g : Nat → Int} (h : Row w a n f) (e : ∀ k, k < n → f k = g k) : Row w a n g := fun hn => by
  obtain ⟨b, off, rfl, hb, hc⟩ := h hn
  exact ⟨b, off, rfl, hb, fun k hk => by rw [← e k hk]; exact hc k hk⟩
theorem aw_rowG {w : World} {g : Nat} (h : Blk w g 39 #[.int .i64 8, .int .i64 4, .int .i64 10, .int .i64 2, .int .i64 2, .int .i64 10]) : BdR w (some ⟨g, 0, none⟩) 2 awG := fun _ => by
  refine ⟨g, 0, rfl, h.lt, fun k hk => ?_⟩
  match k, hk with
  | 0, _ => exact ⟨h.cellv 0 rfl, h.cellv 1 rfl, h.cellv 2 rfl⟩
  | 1, _ => exact ⟨h.cellv 3 rfl, h.cellv 4 rfl, h.cellv 5 rfl⟩
theorem aw_rowD {w : World} {g : Nat} (h : Blk w g 37 #[.int .i64 0, .int .i64 0, .int .i64 0, .int .i64 9]) : DmR w (some ⟨g, 0, none⟩) 2 awD := fun _ => by
  refine ⟨g, 0, rfl, h.lt, fun k hk => ?_⟩
  match k, hk with
  | 0, _ => exact ⟨h.cellv 0 rfl, h.cellv 1 rfl⟩
  | 1, _ => exact ⟨h.cellv 2 rfl, h.cellv 3 rfl⟩

set_option maxHeartbeats 1000000 in
theorem awake_ok (w : World) : Calls Try.prog 7 #[] w fun e w' => e = .returned (.bool true) ∧ Below w.heap.size w w' := by
  obtain ⟨B1, N1, N2⟩ := boxes w 39 37 #[.int .i64 8, .int .i64 4, .int .i64 10, .int .i64 2, .int .i64 2, .int .i64 10] #[.int .i64 0, .int .i64 0, .int .i64 0, .int .i64 9]
  obtain ⟨w1, hw1⟩ : ∃ w1, w1 = (w.alloc (.cells #[.int .i64 8, .int .i64 4, .int .i64 10, .int .i64 2, .int .i64 2, .int .i64 10] 39)).alloc (.cells #[.int .i64 0, .int .i64 0, .int .i64 0, .int .i64 9] 37) := ⟨_, rfl⟩
  rw [← hw1] at B1 N1 N2
  have L := limits_ok 10 _ _ 2 2 2 2 awG awD w1 (aw_rowG N1) (aw_rowD N2) (by decide) (by decide)
  have HG : Hd (BdR w1 (some ⟨w.heap.size, 0, none⟩) 2 awG ∧ Below w.heap.size w w1) := ⟨aw_rowG N1, B1⟩
  clear B1 N1 N2
  go_enter Try.func7, Try.ntmps7
  go_wp2_with fail
  rw [← hw1]
  clear hw1
  go_at_call 8
  refine L.mono ?_
  rintro e w2 hres
  obtain ⟨a, c, rfl, r2⟩ := hres.yes aw_fits rfl
  have r3 := r2.congr aw_part
  have M := lent_ok _ _ 2 2 2 c awG (two 4 6) w2 (HG.out.1.carry hres.bel) r3 (by decide) (by decide) aw_in
  rw [aw_lent.1, aw_lent.2] at M
  have R : Hd (Row w2 a 2 (two 4 6) ∧ Below w.heap.size w w2) := ⟨r3, HG.out.2.trans (hres.bel.mono HG.out.2.size)⟩
  clear L HG r2 r3 hres
  go_wp2_with fail
  go_at_call 12
  refine M.mono ?_
  rintro e w3 ⟨rfl, b3⟩
  have q1 := (R.out.1.carry b3).carry (alloc_below w3 (.cells #[.int .i64 4, .int .i64 6] 3))
  have q2 := alloc_row w3 w3.heap.size rfl 4 6
  have BB : Hd (Below w.heap.size w w3) := ⟨R.out.2.trans (b3.mono R.out.2.size)⟩
  have S := same_yes _ _ 2 c 2 _ _ _ q1 q2 (by decide) (fun _ _ => rfl)
  clear q1 q2 b3 R M
  go_wp2_with (go_at_call 10; refine S.mono ?_; rintro e w4 ⟨rfl, b4⟩)
  go_ret
  have b5 := BB.out.alloc BB.out.size (.cells #[.int .i64 4, .int .i64 6] 3)
  exact ⟨rfl, b5.trans (b4.mono b5.size)⟩
end Go.Proofs.Ytcombbkhdnipkaa
