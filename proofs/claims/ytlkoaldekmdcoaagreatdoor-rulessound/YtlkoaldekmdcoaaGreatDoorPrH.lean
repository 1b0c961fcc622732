/-
  What 'ruleWords' of 'print' answers. Condition: the rule's lists lie in memory.
-/
import Derived.Test.YtlkoaldekmdcoaaGreatDoorPrE
import Derived.Test.YtlkoaldekmdcoaaGreatDoorPrG
import Derived.Test.YtlkoaldekmdcoaaGreatDoorOrd
namespace Go.Proofs.YtlkoaldekmdcoaaGreatDoor
open Go.RowKit

theorem LsR.join {w : World} {v : Value} {L : List ByteArray} (h : LsR w v L) : Calls Tryz.prog 112 #[v] w fun e w' => e = .returned (.string (joinB L)) ∧ Below w.heap.size w w' := by
  obtain ⟨a, c, rfl, hr, hc, hm, hs⟩ := h
  exact join_ok a c L w hr (fun k hk => hs _ (gt_mem hk)) hc (by omega)
theorem five_row (w : World) (x0 x1 x2 x3 x4 : ByteArray) : RowL (w.alloc (.cells #[.string x0, .string x1, .string x2, .string x3, .string x4] 9)) (some ⟨w.heap.size, 0, none⟩) [x0, x1, x2, x3, x4] := fun _ => by
  have n := Blk.new w 9 #[.string x0, .string x1, .string x2, .string x3, .string x4]
  refine ⟨w.heap.size, 0, rfl, n.lt, fun k hk => ?_⟩
  rw [Nat.zero_add, n.cell k]
  match k, hk with
  | 0, _ => rfl
  | 1, _ => rfl
  | 2, _ => rfl
  | 3, _ => rfl
  | 4, _ => rfl
set_option maxRecDepth 20000 in
set_option maxHeartbeats 2000000 in
theorem ruleWords_ok (v0 v1 v2 v3 v4 : Value) (r : Rl) (w : World) (h : RuR w v0 v1 v2 v3 v4 r) :
    Calls Tryz.prog 105 #[.agg #[v0, v1, v2, v3, v4]] w fun e w' => ∃ a, e = .returned (.slice a 5 5) ∧ RowL w' a (rlJ r) ∧ Below w.heap.size w w' := by
  have HJ : Hd (RuR w v0 v1 v2 v3 v4 r) := ⟨h⟩
  obtain ⟨⟨a0, c0, rfl, -⟩, ⟨a1, c1, rfl, -⟩, ⟨a2, c2, rfl, -⟩, ⟨a3, c3, rfl, -⟩, ⟨a4, c4, rfl, -⟩⟩ := h
  have e5 : rlJ r = [joinB r.users, joinB r.groups, joinB r.verbs, joinB r.resources, joinB r.spaces] := rfl
  rw [e5]
  clear e5
  have J0 : Hd (∀ W, Below w.heap.size w W → Calls Tryz.prog 112 #[.slice a0 r.users.length c0] W fun e w' => e = .returned (.string (joinB r.users)) ∧ Below W.heap.size W w') := ⟨fun W hW => (HJ.out.1.carry hW).join⟩
  have J1 : Hd (∀ W, Below w.heap.size w W → Calls Tryz.prog 112 #[.slice a1 r.groups.length c1] W fun e w' => e = .returned (.string (joinB r.groups)) ∧ Below W.heap.size W w') := ⟨fun W hW => (HJ.out.2.1.carry hW).join⟩
  have J2 : Hd (∀ W, Below w.heap.size w W → Calls Tryz.prog 112 #[.slice a2 r.verbs.length c2] W fun e w' => e = .returned (.string (joinB r.verbs)) ∧ Below W.heap.size W w') := ⟨fun W hW => (HJ.out.2.2.1.carry hW).join⟩
  have J3 : Hd (∀ W, Below w.heap.size w W → Calls Tryz.prog 112 #[.slice a3 r.resources.length c3] W fun e w' => e = .returned (.string (joinB r.resources)) ∧ Below W.heap.size W w') := ⟨fun W hW => (HJ.out.2.2.2.1.carry hW).join⟩
  have J4 : Hd (∀ W, Below w.heap.size w W → Calls Tryz.prog 112 #[.slice a4 r.spaces.length c4] W fun e w' => e = .returned (.string (joinB r.spaces)) ∧ Below W.heap.size W w') := ⟨fun W hW => (HJ.out.2.2.2.2.carry hW).join⟩
  clear HJ
  generalize joinB r.users = x0 at *
  generalize joinB r.groups = x1 at *
  generalize joinB r.verbs = x2 at *
  generalize joinB r.resources = x3 at *
  generalize joinB r.spaces = x4 at *
  generalize r.users.length = n0 at *
  generalize r.groups.length = n1 at *
  generalize r.verbs.length = n2 at *
  generalize r.resources.length = n3 at *
  generalize r.spaces.length = n4 at *
  have AL := alloc_below w (.cells #[.slice a0 n0 c0, .slice a1 n1 c1, .slice a2 n2 c2, .slice a3 n3 c3, .slice a4 n4 c4] 51)
  have NB := Blk.new w 51 #[.slice a0 n0 c0, .slice a1 n1 c1, .slice a2 n2 c2, .slice a3 n3 c3, .slice a4 n4 c4]
  go_enter Tryz.func105, Tryz.ntmps105
  go_upto_region 1 with fail
  generalize w.alloc _ = w1 at *
  have DR : Below w1.heap.size w1 w1.drew := ⟨rfl, rfl, rfl, Nat.le_refl _, fun _ _ => rfl⟩
  have B0 : Below w.heap.size w w1.drew := AL.trans (DR.mono AL.size)
  have A0 := NB.kept (Kept.of_below DR (fun _ => False)) id
  refine AnyG.start (T := fun w' => Blk w' w.heap.size 51 #[.slice a0 n0 c0, .slice a1 n1 c1, .slice a2 n2 c2, .slice a3 n3 c3, .slice a4 n4 c4]) (U := fun _ => True) (j0 := 100) (by kernel_rfl) ?_
  clear DR AL NB
  generalize w1.drew = w0 at *
  refine AnyG.takeAt 0 3 (v := ?_) rfl rfl (by kernel_rfl) (by kernel_rfl) (by kernel_rfl) (by decide) (fun _ _ _ h => h) ⟨A0, fun _ => trivial⟩ (by rfl) ?_ ?_
  rotate_left
  · intro w hSw
    go_simp
    rfl
  simp only [List.setIfInBounds_toArray, List.set_cons_zero, List.set_cons_succ]
  refine AnyG.takeAt 1 4 (v := ?_) rfl rfl (by kernel_rfl) (by kernel_rfl) (by kernel_rfl) (by decide) (fun _ _ _ h => h) ⟨A0, fun _ => trivial⟩ (by rfl) ?_ ?_
  rotate_left
  · intro w hSw
    have s4 := hSw.cellv (v := .slice a0 n0 c0) 0 rfl
    go_simp
    rfl
  simp only [List.setIfInBounds_toArray, List.set_cons_zero, List.set_cons_succ]
  refine AnyG.takeAt 3 6 (v := ?_) rfl rfl (by kernel_rfl) (by kernel_rfl) (by kernel_rfl) (by decide) (fun _ _ _ h => h) ⟨A0, fun _ => trivial⟩ (by rfl) ?_ ?_
  rotate_left
  · intro w hSw
    go_simp
    rfl
  simp only [List.setIfInBounds_toArray, List.set_cons_zero, List.set_cons_succ]
  refine AnyG.takeAt 4 7 (v := ?_) rfl rfl (by kernel_rfl) (by kernel_rfl) (by kernel_rfl) (by decide) (fun _ _ _ h => h) ⟨A0, fun _ => trivial⟩ (by rfl) ?_ ?_
  rotate_left
  · intro w hSw
    have s4 := hSw.cellv (v := .slice a1 n1 c1) 1 rfl
    go_simp
    rfl
  simp only [List.setIfInBounds_toArray, List.set_cons_zero, List.set_cons_succ]
  refine AnyG.takeAt 6 9 (v := ?_) rfl rfl (by kernel_rfl) (by kernel_rfl) (by kernel_rfl) (by decide) (fun _ _ _ h => h) ⟨A0, fun _ => trivial⟩ (by rfl) ?_ ?_
  rotate_left
  · intro w hSw
    go_simp
    rfl
  simp only [List.setIfInBounds_toArray, List.set_cons_zero, List.set_cons_succ]
  refine AnyG.takeAt 7 10 (v := ?_) rfl rfl (by kernel_rfl) (by kernel_rfl) (by kernel_rfl) (by decide) (fun _ _ _ h => h) ⟨A0, fun _ => trivial⟩ (by rfl) ?_ ?_
  rotate_left
  · intro w hSw
    have s4 := hSw.cellv (v := .slice a2 n2 c2) 2 rfl
    go_simp
    rfl
  simp only [List.setIfInBounds_toArray, List.set_cons_zero, List.set_cons_succ]
  refine AnyG.takeAt 9 12 (v := ?_) rfl rfl (by kernel_rfl) (by kernel_rfl) (by kernel_rfl) (by decide) (fun _ _ _ h => h) ⟨A0, fun _ => trivial⟩ (by rfl) ?_ ?_
  rotate_left
  · intro w hSw
    go_simp
    rfl
  simp only [List.setIfInBounds_toArray, List.set_cons_zero, List.set_cons_succ]
  refine AnyG.takeAt 10 13 (v := ?_) rfl rfl (by kernel_rfl) (by kernel_rfl) (by kernel_rfl) (by decide) (fun _ _ _ h => h) ⟨A0, fun _ => trivial⟩ (by rfl) ?_ ?_
  rotate_left
  · intro w hSw
    have s4 := hSw.cellv (v := .slice a3 n3 c3) 3 rfl
    go_simp
    rfl
  simp only [List.setIfInBounds_toArray, List.set_cons_zero, List.set_cons_succ]
  refine AnyG.takeAt 12 15 (v := ?_) rfl rfl (by kernel_rfl) (by kernel_rfl) (by kernel_rfl) (by decide) (fun _ _ _ h => h) ⟨A0, fun _ => trivial⟩ (by rfl) ?_ ?_
  rotate_left
  · intro w hSw
    go_simp
    rfl
  simp only [List.setIfInBounds_toArray, List.set_cons_zero, List.set_cons_succ]
  refine AnyG.takeAt 13 16 (v := ?_) rfl rfl (by kernel_rfl) (by kernel_rfl) (by kernel_rfl) (by decide) (fun _ _ _ h => h) ⟨A0, fun _ => trivial⟩ (by rfl) ?_ ?_
  rotate_left
  · intro w hSw
    have s4 := hSw.cellv (v := .slice a4 n4 c4) 4 rfl
    go_simp
    rfl
  simp only [List.setIfInBounds_toArray, List.set_cons_zero, List.set_cons_succ]
  refine AnyG.ready (rs := [2]) (by kernel_rfl) (by simp) ?_
  refine AllG.cons rfl (fun K hK => ?_) AllG.nil
  go_simp
  refine (J0.out w0 B0).mono ?_
  rintro e wk1 ⟨rfl, b1⟩
  have Ak1 := A0.kept (Kept.of_below b1 (fun _ => False)) id
  have Bk1 : Below w.heap.size w wk1 := B0.trans (b1.mono B0.size)
  refine hK.out _ _ ⟨Ak1, fun _ => trivial⟩ ?_
  clear hK K b1 A0 B0
  refine AnyG.ready (rs := [5]) (by kernel_rfl) (by simp) ?_
  refine AllG.cons rfl (fun K hK => ?_) AllG.nil
  go_simp
  refine (J1.out wk1 Bk1).mono ?_
  rintro e wk2 ⟨rfl, b2⟩
  have Ak2 := Ak1.kept (Kept.of_below b2 (fun _ => False)) id
  have Bk2 : Below w.heap.size w wk2 := Bk1.trans (b2.mono Bk1.size)
  refine hK.out _ _ ⟨Ak2, fun _ => trivial⟩ ?_
  clear hK K b2 Ak1 Bk1
  refine AnyG.ready (rs := [8]) (by kernel_rfl) (by simp) ?_
  refine AllG.cons rfl (fun K hK => ?_) AllG.nil
  go_simp
  refine (J2.out wk2 Bk2).mono ?_
  rintro e wk3 ⟨rfl, b3⟩
  have Ak3 := Ak2.kept (Kept.of_below b3 (fun _ => False)) id
  have Bk3 : Below w.heap.size w wk3 := Bk2.trans (b3.mono Bk2.size)
  refine hK.out _ _ ⟨Ak3, fun _ => trivial⟩ ?_
  clear hK K b3 Ak2 Bk2
  refine AnyG.ready (rs := [11]) (by kernel_rfl) (by simp) ?_
  refine AllG.cons rfl (fun K hK => ?_) AllG.nil
  go_simp
  refine (J3.out wk3 Bk3).mono ?_
  rintro e wk4 ⟨rfl, b4⟩
  have Ak4 := Ak3.kept (Kept.of_below b4 (fun _ => False)) id
  have Bk4 : Below w.heap.size w wk4 := Bk3.trans (b4.mono Bk3.size)
  refine hK.out _ _ ⟨Ak4, fun _ => trivial⟩ ?_
  clear hK K b4 Ak3 Bk3
  refine AnyG.ready (rs := [14]) (by kernel_rfl) (by simp) ?_
  refine AllG.cons rfl (fun K hK => ?_) AllG.nil
  go_simp
  refine (J4.out wk4 Bk4).mono ?_
  rintro e wk5 ⟨rfl, b5⟩
  have Ak5 := Ak4.kept (Kept.of_below b5 (fun _ => False)) id
  have Bk5 : Below w.heap.size w wk5 := Bk4.trans (b5.mono Bk4.size)
  refine hK.out _ _ ⟨Ak5, fun _ => trivial⟩ ?_
  clear hK K b5 Ak4 Bk4
  refine AnyG.ready (rs := [15]) (by kernel_rfl) (by simp) ?_
  refine AllG.cons rfl (fun K hK => ?_) AllG.nil
  go_simp
  have AL6 := alloc_below wk5 (.cells #[.string x0, .string x1, .string x2, .string x3, .string x4] 9)
  have Ak6 := Ak5.kept (Kept.of_below AL6 (fun _ => False)) id
  have Bk6 : Below w.heap.size w (wk5.alloc (.cells #[.string x0, .string x1, .string x2, .string x3, .string x4] 9)) := Bk5.trans (AL6.mono Bk5.size)
  have RW := five_row wk5 x0 x1 x2 x3 x4
  refine hK.out _ _ ⟨Ak6, fun _ => trivial⟩ ?_
  clear hK K AL6 Ak5 Bk5
  generalize wk5.alloc (.cells #[.string x0, .string x1, .string x2, .string x3, .string x4] 9) = wk6 at *
  generalize wk5.heap.size = gk6 at *
  refine AnyG.takeAt 16 2 (v := ?_) rfl rfl (by kernel_rfl) (by kernel_rfl) (by kernel_rfl) (by decide) (fun _ _ _ h => h) ⟨Ak6, fun _ => trivial⟩ (by rfl) ?_ ?_
  rotate_left
  · intro w hSw
    go_simp
    rfl
  simp only [List.setIfInBounds_toArray, List.set_cons_zero, List.set_cons_succ]
  refine AnyG.done (by kernel_rfl) ?_ _
  go_wp2_with fail
  go_ret
  exact ⟨_, rfl, RW, Bk6⟩
end Go.Proofs.YtlkoaldekmdcoaaGreatDoor
