/-
  What 'put' of the program does to a heap that lies in memory. Conditions: as each theorem says them.
-/
import Derived.Test.YthamaiibknmeeaaBase
namespace Go.Proofs.Ythamaiibknmeeaa
open Go.RowKit Go.Lib Go.Sort Go.Maps

/-- A heap that has had items: the struct in block hb, the items in block g, the places in block mb. -/
structure HM (w : World) (hb mb g n cap : Nat) (f : Nat → Int × Int) (c : Nat) (pos : Int → Option Nat) : Prop where
  hlt : hb < w.heap.size
  c0 : w.cell? ⟨hb, 0, none⟩ = some (.slice (some ⟨g, 0, none⟩) n cap)
  c1 : w.cell? ⟨hb, 1, none⟩ = some (.map (some mb))
  f0 : w.frozen? ⟨hb, 0, none⟩ = false
  arr : Arr w g n cap f
  map : MapIs w mb c pos
  ne1 : hb ≠ g
  ne2 : hb ≠ mb
  ne3 : g ≠ mb

section
variable {w w' : World} {hb mb g n cap : Nat} {f : Nat → Int × Int} {c : Nat} {pos : Int → Option Nat}
theorem HM.kept {S : Nat → Prop} (h : HM w hb mb g n cap f c pos) (k : Kept S w w') (h1 : ¬ S hb) (h2 : ¬ S g) (h3 : ¬ S mb) : HM w' hb mb g n cap f c pos :=
  ⟨Nat.lt_of_lt_of_le h.hlt k.size, (k.cell h.hlt h1).trans h.c0, (k.cell h.hlt h1).trans h.c1, (k.frozen h.hlt h1).trans h.f0, h.arr.same (k.block g h.arr.lt h2), h.map.same (k.block mb h.map.lt h3), h.ne1, h.ne2, h.ne3⟩
theorem HM.below (h : HM w hb mb g n cap f c pos) (k : Below w.heap.size w w') : HM w' hb mb g n cap f c pos := h.kept (Kept.of_below k (fun _ => False)) id id id
theorem HM.alloc (h : HM w hb mb g n cap f c pos) (o : Obj) : HM (w.alloc o) hb mb g n cap f c pos := h.below ((Below.refl _ _).alloc (Nat.le_refl _) _)
theorem HM.drew (h : HM w hb mb g n cap f c pos) : HM w.drew hb mb g n cap f c pos := ⟨h.hlt, h.c0, h.c1, h.f0, h.arr, h.map, h.ne1, h.ne2, h.ne3⟩
theorem HM.store (h : HM w hb mb g n cap f c pos) {i : Nat} (hi : i < n) (x : Int × Int) : HM ((w.setCell ⟨g, i * 2, none⟩ (.int .u64 x.1)).setCell ⟨g, i * 2 + 1, none⟩ (.int .i64 x.2)) hb mb g n cap (upd f i x) c pos := by
  have k : Kept (fun j => j = g) w ((w.setCell ⟨g, i * 2, none⟩ (.int .u64 x.1)).setCell ⟨g, i * 2 + 1, none⟩ (.int .i64 x.2)) := ((Kept.refl (fun j => j = g) w).setCell ⟨g, i * 2, none⟩ _ rfl).setCell ⟨g, i * 2 + 1, none⟩ _ rfl
  exact ⟨by simpa using h.hlt, (k.cell h.hlt h.ne1).trans h.c0, (k.cell h.hlt h.ne1).trans h.c1, (k.frozen h.hlt h.ne1).trans h.f0, h.arr.store hi x, h.map.same (k.block mb h.map.lt h.ne3.symm), h.ne1, h.ne2, h.ne3⟩
end

/-- The blocks of the items and of the places. -/
def In2 (g mb : Nat) : Nat → Prop := fun k => k = g ∨ k = mb

set_option maxHeartbeats 1000000 in
theorem put_any {w : World} {hb mb g n cap : Nat} {f : Nat → Int × Int} {c : Nat} {pos : Int → Option Nat} (H : HM w hb mb g n cap f c pos) (i : Nat) (hi : i < n) (hn : n ≤ 8192) (hc : c ≤ 8192) (x : Int × Int) (hx : Wf x) :
    Calls Try.prog 34 #[.pointer (some ⟨hb, 0, none⟩), .int .i64 i, vI x] w fun e w' => e = .returned (.tuple #[]) ∧
      HM w' hb mb g n cap (upd f i x) (cnt c (pos x.2)) (updp pos x.2 (some i)) ∧ Kept (In2 g mb) w w' := by
  obtain ⟨a, b⟩ := x
  obtain ⟨⟨x1, x2⟩, x3, x4⟩ := hx
  dsimp only at x1 x2 x3 x4
  unfold vI
  go_enter Try.func34, Try.ntmps34
  go_wp2_with fail
  obtain ⟨w1, hw1⟩ : ∃ w1, w1 = w.alloc (.cells #[.int .u64 a, .int .i64 b] 61) := ⟨_, rfl⟩
  have H1 : HM w1 hb mb g n cap f c pos := hw1 ▸ H.alloc _
  have bx0 : w1.cell? ⟨w.heap.size, 0, none⟩ = some (.int .u64 a) := by rw [hw1]; simp [go_sem]
  have bx1 : w1.cell? ⟨w.heap.size, 1, none⟩ = some (.int .i64 b) := by rw [hw1]; simp [go_sem]
  have bl : w.heap.size < w1.heap.size := by rw [hw1]; simp
  have ng : w.heap.size ≠ g := by have := H.arr.lt; omega
  have nm : w.heap.size ≠ mb := by have := H.map.lt; omega
  have k1 : Kept (In2 g mb) w w1 := hw1 ▸ (Kept.refl _ w).alloc _
  rw [← hw1]
  clear hw1 H
  generalize w.heap.size = B at *
  have c0 := H1.c0
  obtain ⟨g0, g1⟩ := H1.arr.cells hi
  have fz := H1.arr.frozen
  have i1 : (i : Int) < (n : Int) := by omega
  refine region_tail 7 (by kernel_rfl) ?_
  simp only [List.take_succ_cons, List.take_zero, List.drop_succ_cons, List.drop_zero]
  repeat still_step
  refine wpStill_nil ?_
  go_wp2_with fail
  have H2 := (H1.store hi (a, b)).drew
  have k2 : Kept (In2 g mb) w1 ((w1.setCell ⟨g, i * 2, none⟩ (.int .u64 a)).setCell ⟨g, i * 2 + 1, none⟩ (.int .i64 b)).drew := (((Kept.refl (In2 g mb) w1).setCell ⟨g, i * 2, none⟩ _ (.inl rfl)).setCell ⟨g, i * 2 + 1, none⟩ _ (.inl rfl)).drew
  dsimp only at H2
  generalize ((w1.setCell ⟨g, i * 2, none⟩ (.int .u64 a)).setCell ⟨g, i * 2 + 1, none⟩ (.int .i64 b)).drew = w2 at H2 k2 ⊢
  have bx2 : w2.cell? ⟨B, 1, none⟩ = some (.int .i64 b) := (k2.cell bl (by unfold In2; omega)).trans bx1
  clear bx0 bx1 c0 g0 g1 fz
  have c1 := H2.c1
  obtain ⟨w3, hrun, M3, g3⟩ := H2.drew.map.store hc (id := b) ⟨x3, x4⟩ (p := i) (by omega)
  refine region_tail 7 (by kernel_rfl) ?_
  simp only [List.take_succ_cons, List.take_zero, List.drop_succ_cons, List.drop_zero]
  repeat still_step
  refine wpStill_nil ?_
  go_wp2
  go_end0
  have k3 : Kept (In2 g mb) w2 w3 := (Kept.refl _ w2).drew.trans (Kept.of_grown g3 (fun k e => .inr (by cases e; rfl)))
  have k4 : Kept (fun k => k = mb) w2 w3 := (Kept.refl _ w2).drew.trans (Kept.of_grown g3 (fun k e => by cases e; rfl))
  refine ⟨rfl, ⟨Nat.lt_of_lt_of_le H2.hlt k3.size, (k4.cell H2.hlt H2.ne2).trans H2.c0, (k4.cell H2.hlt H2.ne2).trans H2.c1, (k4.frozen H2.hlt H2.ne2).trans H2.f0, H2.arr.same (k4.block g H2.arr.lt H2.ne3), M3, H2.ne1, H2.ne2, H2.ne3⟩, (k1.trans k2).trans k3⟩
end Go.Proofs.Ythamaiibknmeeaa
