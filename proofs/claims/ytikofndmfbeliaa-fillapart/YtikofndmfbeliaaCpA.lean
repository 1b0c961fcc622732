/-
  How a copy comes to lie in memory, step by step. No condition.
-/
import Derived.Test.YtikofndmfbeliaaFlF
namespace Go.Proofs.Ytikofndmfbeliaa
open Go.RowKit

/-- One more rule is put behind. -/
theorem RlW.put {B : Nat} {w1 w2 : World} {v v2 : Value} {rs : List Rl} {Q : List Q5} {q : Q5} {r : Rl} (hl : Q.length = rs.length) (h : w1.ownsRow B 37 5 v rs.length (q5C Q)) (hr : ∀ k (h : k < rs.length) (h' : k < Q.length), RuW B w1 Q[k] rs[k]) (hq : RuW B w1 q r)
    (ho : w2.ownsRow B 37 5 v2 (rs.length + 1) (q5C Q ++ q5L q)) (hg : w1.grownBy w2 v.ownBlock) : RlW B w2 v2 (rs ++ [r]) := by
  have K : Kept (fun k => v.ownBlock = some k) w1 w2 := Kept.of_grown hg (fun _ h => h)
  have o9 := off_own h (by decide : 37 ≠ 9)
  refine ⟨Q ++ [q], by simp [hl], ?_, fun k h1 h2 => ?_⟩
  · rw [q5C_append, List.length_append]
    simpa [q5C] using ho
  · by_cases e : k < rs.length
    · rw [List.getElem_append_left e, List.getElem_append_left (by omega)]
      exact (hr k e (by omega)).off K o9
    · have e2 : k = rs.length := by simp at h1; omega
      subst e2
      simp only [List.getElem_append_right (Nat.le_refl _), List.getElem_append_right (Nat.le_of_eq hl)]
      simpa using hq.off K o9
theorem q5L_one {B : Nat} {w : World} {q : Q5} {r : Rl} (h : RuW B w q r) : ∀ u ∈ q5L q, u.oneCell' = true := fun u hu => by
  obtain ⟨⟨a0, c0, e0, -⟩, ⟨a1, c1, e1, -⟩, ⟨a2, c2, e2, -⟩, ⟨a3, c3, e3, -⟩, ⟨a4, c4, e4, -⟩⟩ := And.intro h.1.shape (And.intro h.2.1.shape (And.intro h.2.2.1.shape (And.intro h.2.2.2.1.shape h.2.2.2.2.shape)))
  simp only [q5L, List.mem_cons, List.not_mem_nil, or_false] at hu
  rcases hu with rfl | rfl | rfl | rfl | rfl
  · rw [e0]; rfl
  · rw [e1]; rfl
  · rw [e2]; rfl
  · rw [e3]; rfl
  · rw [e4]; rfl
/-- The copy behind i schemas. -/
structure C1 (w wr : World) (A : Nat) (z : Array Value) (x0 x1 x2 x3 : Int) (vL vS : Value) (L : List Lv) (S : List Sc) (vo : Value) (i : Nat) : Prop where
  bel : Below w.heap.size w wr
  box : Blk wr A 25 #[.int .i64 x0, .int .i64 x1, .int .i64 x2, .int .i64 x3, vL, vS]
  res : Blk wr (A + 1) 25 z
  lv : LvW w.heap.size wr vL L
  out : ∃ V, ScW w.heap.size wr vo (S.take i) V
section
variable {w wr w1 w2 : World} {A : Nat} {z : Array Value} {x0 x1 x2 x3 : Int} {vL vS vo v2 u : Value} {L : List Lv} {S : List Sc} {i : Nat} {V : List Value}
theorem C1.grown (h : C1 w wr A z x0 x1 x2 x3 vL vS L S vo i) (b : Below wr.heap.size wr w1) : C1 w w1 A z x0 x1 x2 x3 vL vS L S vo i := by
  obtain ⟨V, hV⟩ := h.out
  have k : Kept (fun _ => False) wr w1 := Kept.of_below b _
  exact ⟨h.bel.trans (b.mono h.bel.size), h.box.kept k id, h.res.kept k id, h.lv.grown b, V, hV.grown b⟩
theorem C1.step (h : C1 w wr A z x0 x1 x2 x3 vL vS L S vo i) (hi : i < S.length) (hV : ScW w.heap.size wr vo (S.take i) V) (b : Below wr.heap.size wr w1) (hu : RlW wr.heap.size w1 u S[i].rules)
    (ho : w2.ownsRow w.heap.size 34 5 v2 (i + 1) (scCs (S.take i) V ++ scC S[i] u)) (hg : w1.grownBy w2 vo.ownBlock) (hs : w.heap.size ≤ wr.heap.size) : C1 w w2 A z x0 x1 x2 x3 vL vS L S v2 (i + 1) := by
  have V1 := hV.grown b
  have G1 := h.grown b
  have K : Kept (fun k => vo.ownBlock = some k) w1 w2 := Kept.of_grown hg (fun _ h => h)
  have hlen : (S.take i).length = i := by rw [List.length_take]; omega
  have hB : Below w.heap.size w1 w2 := K.below (Nat.le_trans hs b.size) (fun k hk => (V1.own.lt k hk).1)
  have P := ScW.put (s := S[i]) V1 (hu.mono hs) (fun k hk g hg1 hg2 => by
    have h1 := ((hV.rls k (by rw [← hV.len]; exact hk) hk).lt hg1).2
    have h2 := (hu.lt hg2).1
    omega) (by rw [hlen]; exact ho) hg
  rw [List.take_append_getElem hi] at P
  exact ⟨G1.bel.trans hB, G1.box.kept K (fun e => off_own V1.own (by decide : 34 ≠ 25) A _ G1.box e), G1.res.kept K (fun e => off_own V1.own (by decide : 34 ≠ 25) _ _ G1.res e), LvW.off G1.lv K (off_own V1.own (by decide : 34 ≠ 31)), _, P⟩
end
/-- The rules of one schema behind k of them. -/
structure C2 (wr w2 : World) (g : Nat) (c : Array Value) (rs : List Rl) (vr : Value) (k : Nat) : Prop where
  bel : Below wr.heap.size wr w2
  box : Blk w2 g 34 c
  rls : RlW wr.heap.size w2 vr (rs.take k)
theorem C2.grown {wr w2 w3 : World} {g : Nat} {c : Array Value} {rs : List Rl} {vr : Value} {k : Nat} (h : C2 wr w2 g c rs vr k) (b : Below w2.heap.size w2 w3) : C2 wr w3 g c rs vr k :=
  ⟨h.bel.trans (b.mono h.bel.size), h.box.kept (Kept.of_below b (fun _ => False)) id, h.rls.off (Kept.of_below b (fun _ => False)) (Off.none _ _) (Off.none _ _)⟩
end Go.Proofs.Ytikofndmfbeliaa
