/-
  The reference's filling in the course of it: what lies in memory. No condition.
-/
import Derived.Test.YtikofndmfbeliaaRfA
namespace Go.Proofs.Ytikofndmfbeliaa
open Go.RowKit

structure FS (w wr : World) (g1 g2 g3 gs : Nat) (c z : Array Value) (o0 o1 o2 o3 vL vS : Value) (L : List Lv) (S : List Sc) : Prop where
  bel : Below w.heap.size w wr
  b1 : Blk wr g1 25 c
  b2 : Blk wr g2 25 z
  b3 : Blk wr g3 25 #[o0, o1, o2, o3, vL, vS]
  lv : LvW w.heap.size wr vL L
  sc : ∃ V, ScW w.heap.size wr vS S V
  st : Blk wr gs 9 #[.string tStar]
  n1 : g1 ≠ g3
  n2 : g2 ≠ g3
  le : w.heap.size ≤ g3
  gl : w.heap.size ≤ gs
section
variable {w wr w1 w2 : World} {g1 g2 g3 gs : Nat} {c z : Array Value} {o0 o1 o2 o3 vL vS v2 u : Value} {L : List Lv} {S : List Sc} {V : List Value}
theorem FS.grown (h : FS w wr g1 g2 g3 gs c z o0 o1 o2 o3 vL vS L S) (b : Below wr.heap.size wr w1) : FS w w1 g1 g2 g3 gs c z o0 o1 o2 o3 vL vS L S := by
  have k : Kept (fun _ => False) wr w1 := Kept.of_below b _
  obtain ⟨V, hV⟩ := h.sc
  exact ⟨h.bel.trans (b.mono h.bel.size), h.b1.kept k id, h.b2.kept k id, h.b3.kept k id, h.lv.grown b, ⟨V, hV.grown b⟩, h.st.kept k id, h.n1, h.n2, h.le, h.gl⟩
theorem FS.putL {l : Lv} (h0 : FS w wr g1 g2 g3 gs c z o0 o1 o2 o3 vL vS L S) (b : Below wr.heap.size wr w1) (ho : w2.ownsRow w.heap.size 31 10 v2 (L.length + 1) (lvCs L ++ lvC l)) (hg : w1.grownBy w2 vL.ownBlock) :
    Blk w2 g3 25 #[o0, o1, o2, o3, vL, vS] ∧ FS w (w2.setCell ⟨g3, 4, none⟩ v2) g1 g2 g3 gs c z o0 o1 o2 o3 v2 vS (L ++ [l]) S := by
  have h := h0.grown b
  have K : Kept (fun k => vL.ownBlock = some k) w1 w2 := Kept.of_grown hg (fun _ h => h)
  have o25 := off_own h.lv (by decide : 31 ≠ 25)
  have o9 := off_own h.lv (by decide : 31 ≠ 9)
  have B3 := h.b3.kept K (fun e => o25 _ _ h.b3 e)
  have KS : Kept (fun k => k = g3) w2 (w2.setCell ⟨g3, 4, none⟩ v2) := (Kept.refl (fun k => k = g3) w2).setCell _ _ (.inl rfl)
  have bl : Below w.heap.size w w2 := h.bel.trans (K.below h.bel.size (fun k hk => (h.lv.lt k hk).1))
  obtain ⟨V, hV⟩ := h.sc
  have hV2 := hV.off K o9 (off_own h.lv (by decide : 31 ≠ 37)) (off_own h.lv (by decide : 31 ≠ 34))
  refine ⟨B3, bl.trans (KS.below bl.size (fun k hk => by rw [hk]; exact h.le)), (h.b1.kept K (fun e => o25 _ _ h.b1 e)).kept KS h.n1, (h.b2.kept K (fun e => o25 _ _ h.b2 e)).kept KS h.n2, ?_, LvW.off (LvW.put ho) KS (off_blk B3 (by decide)), ⟨V, hV2.off KS (off_blk B3 (by decide)) (off_blk B3 (by decide)) (off_blk B3 (by decide))⟩, (h.st.kept K (fun e => o9 _ _ h.st e)).kept KS (fun e => by have h1 := h.st.kept K (fun e => o9 _ _ h.st e); exact B3.ne h1 (by decide) e.symm), h.n1, h.n2, h.le, h.gl⟩
  have := B3.set 4 v2
  simpa using this
theorem FS.putS {s : Sc} (h0 : FS w wr g1 g2 g3 gs c z o0 o1 o2 o3 vL vS L S) (hV0 : ScW w.heap.size wr vS S V) (b : Below wr.heap.size wr w1) (hu : RlW w.heap.size w1 u s.rules) (hf : ∀ g, u.ownBlock = some g → wr.heap.size ≤ g)
    (ho : w2.ownsRow w.heap.size 34 5 v2 (S.length + 1) (scCs S V ++ scC s u)) (hg : w1.grownBy w2 vS.ownBlock) :
    Blk w2 g3 25 #[o0, o1, o2, o3, vL, vS] ∧ FS w (w2.setCell ⟨g3, 5, none⟩ v2) g1 g2 g3 gs c z o0 o1 o2 o3 vL v2 L (S ++ [s]) := by
  have h := h0.grown b
  have hV := hV0.grown b
  have K : Kept (fun k => vS.ownBlock = some k) w1 w2 := Kept.of_grown hg (fun _ h => h)
  have o25 := off_own hV.own (by decide : 34 ≠ 25)
  have o9 := off_own hV.own (by decide : 34 ≠ 9)
  have B3 := h.b3.kept K (fun e => o25 _ _ h.b3 e)
  have KS : Kept (fun k => k = g3) w2 (w2.setCell ⟨g3, 5, none⟩ v2) := (Kept.refl (fun k => k = g3) w2).setCell _ _ (.inl rfl)
  have bl : Below w.heap.size w w2 := h.bel.trans (K.below h.bel.size (fun k hk => (hV.own.lt k hk).1))
  have P := ScW.put (s := s) hV hu (fun k hk g hg1 hg2 => by
    have h1 := ((hV0.rls k (by rw [← hV0.len]; exact hk) hk).lt hg1).2
    have h2 := hf g hg2
    omega) ho hg
  refine ⟨B3, bl.trans (KS.below bl.size (fun k hk => by rw [hk]; exact h.le)), (h.b1.kept K (fun e => o25 _ _ h.b1 e)).kept KS h.n1, (h.b2.kept K (fun e => o25 _ _ h.b2 e)).kept KS h.n2, ?_, LvW.off (LvW.off h.lv K (off_own hV.own (by decide : 34 ≠ 31))) KS (off_blk B3 (by decide)), ⟨_, P.off KS (off_blk B3 (by decide)) (off_blk B3 (by decide)) (off_blk B3 (by decide))⟩, (h.st.kept K (fun e => o9 _ _ h.st e)).kept KS (fun e => by have h1 := h.st.kept K (fun e => o9 _ _ h.st e); exact B3.ne h1 (by decide) e.symm), h.n1, h.n2, h.le, h.gl⟩
  have := B3.set 5 v2
  simpa using this
/-- The memory of one more schema of the reference: its own list, its rule, its schema. -/
theorem FS.newS (h : FS w wr g1 g2 g3 gs c z o0 o1 o2 o3 vL vS L S) (x : ByteArray) (q sc : Array Value) :
    Blk (((wr.alloc (.cells #[.string x] 9)).alloc (.cells q 37)).alloc (.cells sc 34)) wr.heap.size 9 #[.string x] ∧ Blk (((wr.alloc (.cells #[.string x] 9)).alloc (.cells q 37)).alloc (.cells sc 34)) (wr.heap.size + 1) 37 q
    ∧ Below wr.heap.size wr (((wr.alloc (.cells #[.string x] 9)).alloc (.cells q 37)).alloc (.cells sc 34)) ∧ OwnT w.heap.size (((wr.alloc (.cells #[.string x] 9)).alloc (.cells q 37)).alloc (.cells sc 34)) (.slice (some ⟨gs, 0, none⟩) 1 1) [tStar]
    ∧ OwnT w.heap.size (((wr.alloc (.cells #[.string x] 9)).alloc (.cells q 37)).alloc (.cells sc 34)) (.slice (some ⟨wr.heap.size, 0, none⟩) 1 1) [x] :=
  ⟨((Blk.new wr 9 _).alloc _).alloc _, (alloc_new wr _ 37 _).alloc _, (((Below.refl _ _).alloc (Nat.le_refl _) _).alloc (by simp) _).alloc (by simp; omega) _, own_one (((h.st.alloc _).alloc _).alloc _) h.gl, own_one (((Blk.new wr 9 _).alloc _).alloc _) h.bel.size⟩
theorem FS.newS2 (h : FS w wr g1 g2 g3 gs c z o0 o1 o2 o3 vL vS L S) (q sc : Array Value) :
    Blk ((wr.alloc (.cells q 37)).alloc (.cells sc 34)) wr.heap.size 37 q
    ∧ Below wr.heap.size wr ((wr.alloc (.cells q 37)).alloc (.cells sc 34)) ∧ OwnT w.heap.size ((wr.alloc (.cells q 37)).alloc (.cells sc 34)) (.slice (some ⟨gs, 0, none⟩) 1 1) [tStar] :=
  ⟨(Blk.new wr 37 _).alloc _, ((Below.refl _ _).alloc (Nat.le_refl _) _).alloc (by simp) _, own_one ((h.st.alloc _).alloc _) h.gl⟩
end
end Go.Proofs.Ytikofndmfbeliaa
