/-
  What 'order' and 'goesFirst' of the program answer, for all items. No condition.
-/
import Derived.Test.YthamaiibknmeeaaMath
namespace Go.Proofs.Ythamaiibknmeeaa
open Go.RowKit Go.Lib Go.Sort

theorem Try.mixed : Try.prog.follows Departure.mixedOrders = true := by kernel_rfl

/-- A region that draws its order, of which the first n operations only read, and the others wait for one another. -/
theorem region_tail {id : Nat} {Q : Exit → Act → World → Prop} {a : Act} {w : World} {l : List Oper} (n : Nat) (hB : Region.lexTailB .any l.toArray n = true)
    (h : wpStill Try.prog l.toArray w.drew (fun a' => wpList Try.prog l.toArray Q (l.drop n) a' w.drew) (l.take n) a) : (Code.region id l.toArray true).wp Try.prog Q a w :=
  wp_region_still_tail n Try.mixed hB h

set_option maxHeartbeats 1000000 in
theorem order_any (x y : Int × Int) (w : World) : Calls Try.prog 39 #[vI x, vI y] w fun e w' => e = .returned (.int .i64 (ordI x y)) ∧ ∃ q os, w' = grow (w.drewN q) os := by
  rw [← ord_or]
  have U := compareU_any x.1 y.1
  have I := compareI_any x.2 y.2
  have O := or_any (cmpI x.1 y.1) (cmpI x.2 y.2)
  generalize orI (cmpI x.1 y.1) (cmpI x.2 y.2) = r at O ⊢
  generalize cmpI x.1 y.1 = c1 at U O
  generalize cmpI x.2 y.2 = c2 at I O
  obtain ⟨a, b⟩ := x
  obtain ⟨c, d⟩ := y
  unfold vI
  go_enter Try.func39, Try.ntmps39
  go_wp2_with fail
  refine region_tail 10 (by kernel_rfl) ?_
  simp only [List.take_succ_cons, List.take_zero, List.drop_succ_cons, List.drop_zero]
  still_step
  still_step
  still_step
  still_step
  still_call (U _)
  still_step
  still_step
  still_step
  still_step
  still_call (I _)
  refine wpStill_nil ?_
  go_wp2_with (go_at_call 40; refine (O _ _ (by simp [go_sem]) (by simp [go_sem])).mono ?_; rintro e w' ⟨rfl, hw⟩; obtain rfl := hw.symm)
  go_ret
  exact ⟨rfl, 1, _, by rw [alloc_eq_grow, alloc_eq_grow, alloc_eq_grow, grow_grow, grow_grow]; rfl⟩

/-- New blocks alone. -/
theorem below_grow (w : World) (q : Nat) (os : Array Obj) : Below w.heap.size w (grow (w.drewN q) os) :=
  ⟨rfl, rfl, rfl, by rw [size_grow]; exact Nat.le_add_right _ _, fun k hk => heap_grow_old _ _ hk⟩

theorem goesFirst_any (x y : Int × Int) (w : World) : Calls Try.prog 38 #[vI x, vI y] w fun e w' => e = .returned (.bool (@decide (lt x y) (ltDec x y))) ∧ Below w.heap.size w w' := by
  have O := order_any x y
  have e : @decide (lt x y) (ltDec x y) = decide (ordI x y < 0) := by
    cases h : @decide (lt x y) (ltDec x y) with
    | true => exact (decide_eq_true ((lt_iff x y).1 (ltYes_of h))).symm
    | false => exact (decide_eq_false fun c => ltNo_of h ((lt_iff x y).2 c)).symm
  rw [e]; clear e
  generalize ordI x y = r at O ⊢
  obtain ⟨a, b⟩ := x
  obtain ⟨c, d⟩ := y
  unfold vI at O ⊢
  go_enter Try.func38, Try.ntmps38
  go_wp2_with (go_at_call 39; refine (O _).mono ?_; rintro e w' ⟨rfl, q, os, rfl⟩)
  go_ret
  exact ⟨rfl, (((Below.refl _ _).alloc (Nat.le_refl _) _).alloc (by simp) _).trans ((below_grow _ q os).mono (by simp; omega))⟩
end Go.Proofs.Ythamaiibknmeeaa
