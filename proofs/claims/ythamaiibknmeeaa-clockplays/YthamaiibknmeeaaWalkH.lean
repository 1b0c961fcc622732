/-
  What 'take', 'Pop' and 'Remove' of the program do to a heap that lies in memory, and to nil. Conditions: as each theorem says them.
-/
import Derived.Test.YthamaiibknmeeaaWalkF
import Derived.Test.YthamaiibknmeeaaWalkG
namespace Go.Proofs.Ythamaiibknmeeaa
open Go.RowKit Go.Lib Go.Sort Go.Maps

/-- 'delete' of an id that is there. -/
theorem wpList_delete_is (w : World) {ops : Array Oper} {rest : List Oper} {o : Oper} {a : Act} {Q : Exit → Act → World → Prop} (hg : o.guard = none) (m x : Operand)
    (hop : o.op = Op.call { callee := Callee.builtin Builtin.delete, args := #[m, x], argTypes := #[67, 3] }) (b c : Nat) (pos : Int → Option Nat) (hm : a.eval m = .map (some b)) (hown : MapIs w b c pos) (id : Int) (hx : a.eval x = .int .i64 id)
    (hid : -9223372036854775808 ≤ id ∧ id < 9223372036854775808) (hin : (pos id).isSome = true)
    (hK : ∀ w', MapIs w' b (c - 1) (updp pos id none) → w.grownBy w' (some b) → wpList Try.prog ops Q rest (a.put o.dst (.tuple #[])) w') : wpList Try.prog ops Q (o :: rest) a w := by
  refine wpList_plain hg fun K' hK' => ?_
  obtain ⟨w', hrun, r1, r2⟩ := hown.drop hid hin o.type
  unfold Oper.wp
  simp [execOp, hop, resolve, invoke, builtin, hm, hx, hrun, Result.andThen]
  exact hK' _ _ (hK w' r1 r2)

/-- The blocks of a heap. -/
def In3 (hb g mb : Nat) : Nat → Prop := fun k => k = hb ∨ k = g ∨ k = mb

set_option maxRecDepth 20000 in
set_option maxHeartbeats 1000000 in
theorem take_any {w : World} {hb mb g m cap : Nat} {f : Nat → Int × Int} {pos : Int → Option Nat} {M : Int × Int → Prop} (H : HM w hb mb g (m + 1) cap f (m + 1) pos) (O : HeapOK f (m + 1) M pos) (hM : ∀ y, M y → Wf y)
    (i : Nat) (hi : i < m + 1) (hn : m + 1 ≤ 4096) :
    Calls Try.prog 33 #[.pointer (some ⟨hb, 0, none⟩), .int .i64 i] w fun e w' => e = .returned (.tuple #[]) ∧ ∃ (f' : Nat → Int × Int) (pos' : Int → Option Nat), HM w' hb mb g m cap f' m pos' ∧
      HeapOK f' m (fun y => M y ∧ y.2 ≠ (f i).2) pos' ∧ Kept (In3 hb g mb) w w' := by
  have wfm := hM _ ((O.mem _).2 ⟨m, by omega, rfl⟩)
  have wfi := hM _ ((O.mem _).2 ⟨i, hi, rfl⟩)
  have hpi := (O.at_ _ i).2 ⟨hi, rfl⟩
  have hcap := H.arr.len
  have hcap2 := H.arr.room
  have c0 := H.c0
  have hl := H.hlt
  have hl2 := H.arr.lt
  obtain ⟨x0, x1⟩ := H.arr.cells (i := m) (by omega)
  have hi' : (i : Int) < (m : Int) + 1 := by omega
  go_enter Try.func33, Try.ntmps33
  go_wp2_with fail
  obtain ⟨w1, hw1⟩ : ∃ w1, w1 = w.alloc (.cells #[.int .u64 (f m).1, .int .i64 (f m).2] 61) := ⟨_, rfl⟩
  have H1 : HM w1 hb mb g (m + 1) cap f (m + 1) pos := hw1 ▸ H.alloc _
  have bx0 : w1.cell? ⟨w.heap.size, 0, none⟩ = some (.int .u64 (f m).1) := by rw [hw1]; simp [go_sem]
  have bx1 : w1.cell? ⟨w.heap.size, 1, none⟩ = some (.int .i64 (f m).2) := by rw [hw1]; simp [go_sem]
  have bl : w.heap.size < w1.heap.size := by rw [hw1]; simp
  have nb : ¬ In3 hb g mb w.heap.size := by have := H.map.lt; unfold In3; omega
  have k1 : Kept (In3 hb g mb) w w1 := hw1 ▸ (Kept.refl _ w).alloc _
  rw [← hw1]
  clear hw1 H x0 x1 c0 hl hl2
  generalize w.heap.size = B at *
  have c0 := H1.c0
  have c1 := H1.c1
  obtain ⟨x0, x1⟩ := H1.arr.cells hi
  refine region_tail 12 (by kernel_rfl) ?_
  simp only [List.take_succ_cons, List.take_zero, List.drop_succ_cons, List.drop_zero]
  repeat still_step
  refine wpStill_nil ?_
  refine wpList_delete_is _ rfl _ _ rfl mb (m + 1) pos rfl H1.drew.map (f i).2 rfl wfi.2 (by rw [hpi]; rfl) ?_
  intro w2 M2 g2
  rw [Nat.add_sub_cancel] at M2
  have k2 : Kept (fun k => k = mb) w1 w2 := (Kept.refl _ w1).drew.trans (Kept.of_grown g2 (fun k e => by cases e; rfl))
  have d0 := (k2.cell (o := 0) H1.hlt H1.ne2).trans H1.c0
  have d1 := (k2.cell (o := 1) H1.hlt H1.ne2).trans H1.c1
  have d2 := (k2.frozen (o := 0) H1.hlt H1.ne2).trans H1.f0
  have hl := Nat.lt_of_lt_of_le H1.hlt k2.size
  have A2 := H1.arr.same (k2.block g H1.arr.lt H1.ne3)
  have k2' : Kept (In3 hb g mb) w1 w2 := k2.mono (fun k _ e => .inr (.inr e))
  have bx0' := (k2.cell (o := 0) bl (fun e => nb (.inr (.inr e)))).trans bx0
  have bx1' := (k2.cell (o := 1) bl (fun e => nb (.inr (.inr e)))).trans bx1
  have bl2 := Nat.lt_of_lt_of_le bl k2.size
  have ne1 := H1.ne1
  have ne2 := H1.ne2
  have ne3 := H1.ne3
  clear bx0 bx1 c0 c1 x0 x1 H1 k2 g2
  -- the slice is cut
  obtain ⟨w3, hw3⟩ : ∃ w3, w3 = w2.setCell ⟨hb, 0, none⟩ (.slice (some ⟨g, 0, none⟩) m cap) := ⟨_, rfl⟩
  have k3 : Kept (fun k => k = hb) w2 w3 := hw3 ▸ (Kept.refl (fun k => k = hb) w2).setCell ⟨hb, 0, none⟩ _ rfl
  have H3 : HM w3 hb mb g m cap f m (updp pos (f i).2 none) :=
    ⟨by rw [hw3]; simpa using hl, by rw [hw3]; exact World.cell?_setCell_same _ _ _ d0, by rw [hw3, World.cell?_setCell_other]; exact d1; simp, by rw [hw3]; simpa using d2,
      (A2.same (k3.block g A2.lt ne1.symm)).less (by omega), M2.same (k3.block mb M2.lt ne2.symm), ne1, ne2, ne3⟩
  have k3' : Kept (In3 hb g mb) w2 w3 := k3.mono (fun k _ e => .inl e)
  have bx0 := (k3.cell (o := 0) bl2 (fun e => nb (.inl e))).trans bx0'
  have bx1 := (k3.cell (o := 1) bl2 (fun e => nb (.inl e))).trans bx1'
  by_cases c : i < m
  · obtain ⟨G, hne, hpm⟩ := O.taken c
    have S := settle_any H3 i (f m) _ G wfm (fun y hy => ⟨hM y hy.1.1, hy.2⟩) (by omega) (by omega)
    rw [hpm, cnt_some] at S
    have c' : (i : Int) < (m : Int) := by omega
    have nbh : hb ≠ B := fun e => nb (.inl e.symm)
    rw [hw3] at S
    clear bx0 bx1 H3
    go_wp2_with (go_at_call 31; refine S.mono ?_; rintro e w4 ⟨rfl, f4, pos4, H4, O4, k4⟩)
    go_end0
    rw [← hw3] at k4
    refine ⟨rfl, _, _, H4, O4.congr (fun y => ?_), ((k1.trans k2').trans k3').trans (k4.mono fun k _ e => .inr e)⟩
    constructor
    · rintro ⟨hy, h1⟩
      by_cases e : y.2 = (f m).2
      · exact .inl (O.ids hy ((O.mem _).2 ⟨m, by omega, rfl⟩) e)
      · exact .inr ⟨⟨hy, h1⟩, e⟩
    · rintro (rfl | ⟨h1, _⟩)
      · exact ⟨(O.mem _).2 ⟨m, by omega, rfl⟩, hne.symm⟩
      · exact h1
  · obtain rfl : i = m := by omega
    go_wp2
    rw [← hw3]
    go_end0
    exact ⟨rfl, _, _, H3, O.popped, (k1.trans k2').trans k3'⟩
end Go.Proofs.Ythamaiibknmeeaa
