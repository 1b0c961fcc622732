/-
  What 'settle' of the program does to a heap that lies in memory. Conditions: as each theorem says them.
-/
import Derived.Test.YthamaiibknmeeaaWalkE
namespace Go.Proofs.Ythamaiibknmeeaa
open Go.RowKit Go.Lib Go.Sort Go.Maps

set_option maxRecDepth 20000 in
set_option maxHeartbeats 6000000 in
theorem settle_any {w : World} {hb mb g n cap : Nat} {f : Nat → Int × Int} {c : Nat} {pos : Int → Option Nat} (H : HM w hb mb g n cap f c pos) (i : Nat) (x : Int × Int) (M : Int × Int → Prop) (G : Gap f n i x M pos) (hx : Wf x)
    (hM : ∀ y, M y → Wf y ∧ y.2 ≠ x.2) (hn : n ≤ 8192) (hc : c ≤ 8192) :
    Calls Try.prog 31 #[.pointer (some ⟨hb, 0, none⟩), .int .i64 i, vI x] w fun e w' => e = .returned (.tuple #[]) ∧ ∃ (f' : Nat → Int × Int) (pos' : Int → Option Nat), HM w' hb mb g n cap f' (cnt c (pos x.2)) pos' ∧
      HeapOK f' n (fun y => y = x ∨ M y) pos' ∧ Kept (In2 g mb) w w' := by
  unfold vI
  go_enter Try.func31, Try.ntmps31
  go_wp2_with fail
  obtain ⟨w1, hw1⟩ : ∃ w1, w1 = w.alloc (.cells #[.int .u64 x.1, .int .i64 x.2] 61) := ⟨_, rfl⟩
  have H1 : HM w1.drew hb mb g n cap f c pos := (hw1 ▸ H.alloc _ : HM w1 hb mb g n cap f c pos).drew
  have bx0 : w1.cell? ⟨w.heap.size, 0, none⟩ = some (.int .u64 x.1) := by rw [hw1]; simp [go_sem]
  have bx1 : w1.cell? ⟨w.heap.size, 1, none⟩ = some (.int .i64 x.2) := by rw [hw1]; simp [go_sem]
  have bl : w.heap.size < w1.drew.heap.size := by rw [hw1]; exact Nat.lt_of_lt_of_eq (Nat.lt_succ_self _) (by simp)
  have nb : ¬ In2 g mb w.heap.size := by have := H.arr.lt; have := H.map.lt; unfold In2; omega
  have k1 : Kept (In2 g mb) w w1.drew := (hw1 ▸ (Kept.refl _ w).alloc _ : Kept (In2 g mb) w w1).drew
  rw [← hw1]
  clear hw1 H
  generalize w.heap.size = B at *
  go_region_with (first
    | (go_at_call 36; refine (up_any H1 i x M G hM hn hc).mono ?_; rintro e w2 ⟨i2, f2, pos2, rfl, H2, G2, u2, p2, k2⟩; have y0 := (k2.cell (o := 0) bl nb).trans bx0; have y1 := (k2.cell (o := 1) bl nb).trans bx1; have bl2 := Nat.lt_of_lt_of_le bl k2.size)
    | (go_at_call 35; refine (down_any H2 i2 x M G2 u2 hM hn hc).mono ?_; rintro e w3 ⟨i3, f3, pos3, rfl, H3, G3, u3, d3, p3, k3⟩; have z0 := (k3.cell (o := 0) bl2 nb).trans y0; have z1 := (k3.cell (o := 1) bl2 nb).trans y1)
    | (go_at_call 34; refine (put_any H3 i3 G3.inn hn hc x hx).mono ?_; rintro e w4 ⟨rfl, H4, k4⟩))
  all_goals
    have e : cnt c (pos3 x.2) = cnt c (pos x.2) := by rw [p3, p2]
    rw [e] at H4
    go_wp2
    go_end0
    exact ⟨rfl, _, _, H4, G3.done (fun y hy => (hM y hy).2) u3 d3, ((k1.trans k2).trans k3).trans k4⟩
end Go.Proofs.Ythamaiibknmeeaa
