/-
  What every program answers that is awake. No condition.
-/
import Derived.Test.YtomkmgebbiahcaaBb
namespace Go.Proofs.Ytomkmgebbiahcaa
open Go.RowKit

def eA : En := ⟨7, 1, ⟨#[]⟩⟩
def eB : En := ⟨7, 3, ⟨#[]⟩⟩

set_option maxRecDepth 20000 in
set_option maxHeartbeats 1000000 in
theorem awake_ok (w : World) : Calls Try.prog 6 #[] w fun e w' => e = .returned (.bool true) ∧ Below w.heap.size w w' := by
  have P1 : Calls Try.prog 7 #[.slice none 0 0, .agg #[.int .i64 7, .int .i64 1, .string ⟨#[]⟩]] w fun e w' => (∃ v, e = .returned (.tuple #[v, .int .i64 0]) ∧ OwE w' w.heap.size v [eA]) ∧ Below w.heap.size w w' := by
    have := begin_ok none 0 [] eA w ⟨Nat.le_refl _, fun _ => rfl, EnR.nil _ _⟩ (by simp)
    rw [show bgL eA [] = [eA] from rfl, show bgE eA [] = 0 from by decide +kernel] at this
    exact this
  have P2 : Hd (∀ W a c, SlE W a c [eA] → Calls Try.prog 10 #[.slice a 1 c, .int .i64 7, .int .i64 3] W fun e w' => (∃ v, e = .returned (.tuple #[v, .int .i64 0]) ∧ OwE w' W.heap.size v [eB]) ∧ Below W.heap.size W w') := ⟨fun W a c h => by
    have := move_ok a c [eA] 7 3 W h (by simp)
    rw [show mvL 7 3 [eA] = [eB] from rfl, show mvE 7 3 [eA] = 0 from by decide +kernel] at this
    exact this⟩
  have P3 : Hd (∀ W a c, SlE W a c [eB] → Calls Try.prog 12 #[.slice a 1 c, .int .i64 7] W fun e w' => e = .returned (.tuple #[.agg #[.int .i64 7, .int .i64 3, .string ⟨#[]⟩], .bool true]) ∧ Below W.heap.size W w') := ⟨fun W a c h => find_ok a c [eB] 7 W h.2.2 (by simp)⟩
  go_enter Try.func6, Try.ntmps6
  go_wp2_with fail
  go_at_call 7
  refine P1.mono ?_
  rintro e w2 ⟨⟨v2, rfl, o2⟩, b2⟩
  obtain ⟨a2, c2, rfl, s2⟩ := o2.read
  have Q2 := P2.out w2 a2 c2 s2
  clear P1 P2 s2 o2
  go_wp2_with fail
  go_at_call 10
  refine Q2.mono ?_
  rintro e w3 ⟨⟨v3, rfl, o3⟩, b3⟩
  obtain ⟨a3, c3, rfl, s3⟩ := o3.read
  have Q3 := P3.out w3 a3 c3 s3
  have B3 := b2.trans (b3.mono b2.size)
  clear Q2 P3 s3 o3 b2 b3
  go_wp2_with fail
  go_at_call 12
  refine Q3.mono ?_
  rintro e w4 ⟨rfl, b4⟩
  obtain ⟨w5, hw5⟩ : ∃ w5, w5 = w4.alloc (.cells #[.int .i64 7, .int .i64 3, .string ⟨#[]⟩] 24) := ⟨_, rfl⟩
  have N5 : Blk w5 w4.heap.size 24 (enA eB) := by rw [hw5]; exact Blk.new _ _ _
  have B5 : Hd (Below w.heap.size w w5) := ⟨by rw [hw5]; exact (B3.trans (b4.mono B3.size)).alloc (Nat.le_trans B3.size b4.size) _⟩
  obtain ⟨⟨c0, c1, c2'⟩, -⟩ := N5.three
  simp only [eB] at c0 c1 c2'
  clear N5 Q3 B3 b4
  go_upto_region 4 with fail
  rw [← hw5]
  clear hw5
  go_wp2
  go_ret
  exact ⟨rfl, B5.out⟩
end Go.Proofs.Ytomkmgebbiahcaa
