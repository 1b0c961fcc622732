/-
  What a width and a guess count as, the work of a ticket; the finish of a lane's first one, of the program and of the reference. Conditions: the lane lies in memory, its time is a word.
-/
import Derived.Test.YtemmkkcfjhmomabBas
import Derived.Test.YtemmkkcfjhmomabFx
namespace Go.Proofs.Ytemmkkcfjhmomab
open Go.RowKit

def clW (x : Int) : Int := min (max x 1) 16
def clG (x : Int) : Int := min (max x 1) 1000
theorem clW_lo (x : Int) : 1 ≤ clW x := by unfold clW; omega
theorem clW_hi (x : Int) : clW x ≤ 16 := by unfold clW; omega
theorem clG_lo (x : Int) : 1 ≤ clG x := by unfold clG; omega
theorem clG_hi (x : Int) : clG x ≤ 1000 := by unfold clG; omega
def wrk (x g : Int) : Int := clW x * clG g
theorem wrk_lo (x g : Int) : 1 ≤ wrk x g := by
  have h := Int.mul_le_mul (clW_lo x) (clG_lo g) (by decide) (by have := clW_lo x; omega)
  simpa [wrk] using h
theorem wrk_hi (x g : Int) : wrk x g ≤ 16000 := by
  have h := Int.mul_le_mul (clW_hi x) (clG_hi g) (by have := clG_lo g; omega) (by decide)
  simpa [wrk] using h

theorem width_ok (t : Tk) (w : World) :
    Calls Try.prog 33 #[.agg #[.int .i64 t.id, .int .i64 t.wid, .int .i64 t.sts, .int .i64 t.sin, .int .i64 t.unt]] w fun e w' => e = .returned (.int .i64 (clW t.wid)) ∧ Below w.heap.size w w' := by
  obtain ⟨w1, hw1⟩ : ∃ w1, w1 = w.alloc (.cells #[.int .i64 t.id, .int .i64 t.wid, .int .i64 t.sts, .int .i64 t.sin, .int .i64 t.unt] 30) := ⟨_, rfl⟩
  have B : Hd (Below w.heap.size w w1) := ⟨by rw [hw1]; exact alloc_below _ _⟩
  have N1 : Blk w1 w.heap.size 30 (tkA t) := by rw [hw1]; exact Blk.new _ _ _
  obtain ⟨⟨c0, c1, c2, c3, c4⟩, -⟩ := N1.five
  clear N1 c0 c2 c3 c4
  unfold clW
  go_enter Try.func33, Try.ntmps33
  go_upto_region 1 with fail
  rw [← hw1]
  clear hw1
  go_wp2
  go_ret; exact ⟨rfl, B.out⟩

theorem work_ok (t : Tk) (g : Int) (w : World) :
    Calls Try.prog 32 #[.agg #[.int .i64 t.id, .int .i64 t.wid, .int .i64 t.sts, .int .i64 t.sin, .int .i64 t.unt], .int .i64 g] w fun e w' => e = .returned (.int .u64 (wrk t.wid g)) ∧ Below w.heap.size w w' := by
  obtain ⟨w1, hw1⟩ : ∃ w1, w1 = w.alloc (.cells #[.int .i64 t.id, .int .i64 t.wid, .int .i64 t.sts, .int .i64 t.sin, .int .i64 t.unt] 30) := ⟨_, rfl⟩
  have B : Hd (Below w.heap.size w w1) := ⟨by rw [hw1]; exact alloc_below _ _⟩
  have N1 : Blk w1 w.heap.size 30 (tkA t) := by rw [hw1]; exact Blk.new _ _ _
  obtain ⟨⟨c0, c1, c2, c3, c4⟩, -⟩ := N1.five
  clear N1
  have S := width_ok t w1
  have l1 := wrk_lo t.wid g
  have l2 := wrk_hi t.wid g
  unfold wrk at l1 l2
  have HE : Hd (wrk t.wid g = clW t.wid * min (max g 1) 1000) := ⟨rfl⟩
  unfold clG at l1 l2
  generalize wrk t.wid g = z at *
  generalize clW t.wid = x at *
  generalize t.id = t0 at *
  generalize t.wid = t1 at *
  generalize t.sts = t2 at *
  generalize t.sin = t3 at *
  generalize t.unt = t4 at *
  go_enter Try.func32, Try.ntmps32
  go_upto_region 1 with fail
  rw [← hw1]
  clear hw1
  go_wp2_with (go_at_call 33; refine S.mono ?_; rintro e w2 ⟨rfl, b2⟩)
  go_ret; exact ⟨by rw [HE.out]; rfl, B.out.trans (b2.mono B.out.size)⟩
end Go.Proofs.Ytemmkkcfjhmomab
