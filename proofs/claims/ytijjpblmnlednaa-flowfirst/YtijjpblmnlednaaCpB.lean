/-
  What a copy of a configuration keeps in its course. No condition.
-/
import Derived.Test.YtijjpblmnlednaaOwn
namespace Go.Proofs.Ytijjpblmnlednaa
open Go.RowKit

theorem info31 : (Try.prog.info? 54).map (fun i => (i.zero, i.size, i.bytes)) = some (some (.agg #[.string ByteArray.empty, .int .i64 0, .int .i64 0, .int .i64 0, .int .i64 0, .int .i64 0, .int .i64 0, .int .i64 0, .int .i64 0, .int .i64 0]), 10, 88) := by kernel_rfl

theorem info34 : (Try.prog.info? 46).map (fun i => (i.zero, i.size, i.bytes)) = some (some (.agg #[.string ByteArray.empty, .string ByteArray.empty, .int .i64 0, .int .i64 0, .slice none 0 0]), 5, 72) := by kernel_rfl

theorem info37 : (Try.prog.info? 52).map (fun i => (i.zero, i.size, i.bytes)) = some (some (.agg #[.slice none 0 0, .slice none 0 0, .slice none 0 0, .slice none 0 0, .slice none 0 0]), 5, 120) := by kernel_rfl

theorem Blk.alloc {w : World} {b t : Nat} {cs : Array Value} (h : Blk w b t cs) (o : Obj) : Blk (w.alloc o) b t cs := h.kept (Kept.of_below (alloc_below w o) (fun _ => False)) id

theorem alloc_new (w : World) (o : Obj) (t : Nat) (cs : Array Value) : Blk ((w.alloc o).alloc (.cells cs t)) (w.heap.size + 1) t cs := by
  have := Blk.new (w.alloc o) t cs
  simpa using this

theorem LvW.put {B : Nat} {w : World} {v : Value} {L : List Lv} {l : Lv} (h : w.ownsRow B 54 10 v (L.length + 1) (lvCs L ++ lvC l)) : LvW B w v (L ++ [l]) := by
  unfold LvW
  rw [lvCs_append, List.length_append]
  simpa [lvCs] using h

theorem RlW.lt {B : Nat} {w : World} {v : Value} {rs : List Rl} (h : RlW B w v rs) {g : Nat} (hg : v.ownBlock = some g) : B ≤ g ∧ g < w.heap.size := by
  obtain ⟨Q, -, ho, -⟩ := h.ex
  exact ho.lt g hg

/-- One more schema is put behind. -/
theorem ScW.put {B : Nat} {w1 w2 : World} {v v2 u : Value} {S : List Sc} {V : List Value} {s : Sc} (h : ScW B w1 v S V) (hu : RlW B w1 u s.rules) (hf : ∀ k (h : k < V.length) g, V[k].ownBlock = some g → u.ownBlock ≠ some g)
    (ho : w2.ownsRow B 46 5 v2 (S.length + 1) (scCs S V ++ scC s u)) (hg : w1.grownBy w2 v.ownBlock) : ScW B w2 v2 (S ++ [s]) (V ++ [u]) := by
  have K : Kept (fun k => v.ownBlock = some k) w1 w2 := Kept.of_grown hg (fun _ h => h)
  have o9 := off_own h.own (by decide : 46 ≠ 9)
  have o37 := off_own h.own (by decide : 46 ≠ 52)
  have hl := h.len
  refine ⟨by simp [hl], ?_, fun k h1 h2 => ?_, fun p q hp hq hpq g hgp => ?_⟩
  · rw [scCs_append _ _ _ _ hl, List.length_append]
    simpa [scCs] using ho
  · by_cases e : k < S.length
    · rw [List.getElem_append_left e, List.getElem_append_left (by omega)]
      exact (h.rls k e (by omega)).off K o9 o37
    · have e2 : k = S.length := by simp at h1; omega
      subst e2
      simp only [List.getElem_append_right (Nat.le_refl _), List.getElem_append_right (Nat.le_of_eq hl)]
      simpa using hu.off K o9 o37
  · simp only [List.length_append, List.length_singleton] at hp hq
    by_cases e : q < V.length
    · rw [List.getElem_append_left (by omega)] at hgp
      rw [List.getElem_append_left e]
      exact h.dj p q (by omega) e hpq g hgp
    · rw [List.getElem_append_left (by omega)] at hgp
      rw [List.getElem_append_right (by omega)]
      simpa using hf p (by omega) g hgp

theorem scC_one {B : Nat} {w : World} {u : Value} {rs : List Rl} (h : RlW B w u rs) (s : Sc) : ∀ x ∈ scC s u, x.oneCell' = true := fun x hx => by
  obtain ⟨Q, -, ho, -⟩ := h.ex
  obtain ⟨a, c, rfl, -⟩ := owns_read ho
  simp only [scC, List.mem_cons, List.not_mem_nil, or_false] at hx
  rcases hx with rfl | rfl | rfl | rfl | rfl <;> rfl

theorem RlW.shape {B : Nat} {w : World} {u : Value} {rs : List Rl} (h : RlW B w u rs) : ∃ a c, u = .slice a rs.length c := by
  obtain ⟨Q, -, ho, -⟩ := h.ex
  obtain ⟨a, c, rfl, -⟩ := owns_read ho
  exact ⟨a, c, rfl⟩

structure FCf (w : World) (C : Cf) (e : Ending) (w' : World) : Prop where
  ex : ∃ v', e = .returned v' ∧ CfW w.heap.size w' v' C
  bel : Below w.heap.size w w'

/-- Two boxes of a configuration. -/
structure Tw (g1 g2 : Nat) (c1 c2 : Array Value) (w : World) : Prop where
  b1 : Blk w g1 29 c1
  b2 : Blk w g2 29 c2

theorem Tw.kept {g1 g2 : Nat} {c1 c2 : Array Value} {w w' : World} (h : Tw g1 g2 c1 c2 w) (k : Kept (fun _ => False) w w') (_ : False → False) : Tw g1 g2 c1 c2 w' := ⟨h.b1.kept k id, h.b2.kept k id⟩

/-- Six cells of a box are written. -/
theorem six_set {w : World} {g : Nat} {z0 z1 z2 z3 z4 z5 : Value} (h : Blk w g 29 #[z0, z1, z2, z3, z4, z5]) (v0 v1 v2 v3 v4 v5 : Value) :
    Blk ((((((w.setCell ⟨g, 0, none⟩ v0).setCell ⟨g, 1, none⟩ v1).setCell ⟨g, 2, none⟩ v2).setCell ⟨g, 3, none⟩ v3).setCell ⟨g, 4, none⟩ v4).setCell ⟨g, 5, none⟩ v5) g 29 #[v0, v1, v2, v3, v4, v5]
    ∧ Kept (fun k => k = g) w ((((((w.setCell ⟨g, 0, none⟩ v0).setCell ⟨g, 1, none⟩ v1).setCell ⟨g, 2, none⟩ v2).setCell ⟨g, 3, none⟩ v3).setCell ⟨g, 4, none⟩ v4).setCell ⟨g, 5, none⟩ v5) := by
  refine ⟨?_, ((((((Kept.refl (fun k => k = g) w).setCell _ _ (.inl rfl)).setCell _ _ (.inl rfl)).setCell _ _ (.inl rfl)).setCell _ _ (.inl rfl)).setCell _ _ (.inl rfl)).setCell _ _ (.inl rfl)⟩
  have := (((((h.set 0 v0).set 1 v1).set 2 v2).set 3 v3).set 4 v4).set 5 v5
  simpa using this

theorem Bnd.mono {m n : Nat} {C : Cf} (h : Bnd m C) (k : m ≤ n) : Bnd n C :=
  ⟨Nat.le_trans h.lv k, Nat.le_trans h.sc k, fun s hs => by
    obtain ⟨h1, h2⟩ := h.rl s hs
    exact ⟨Nat.le_trans h1 k, fun r hr => by obtain ⟨c0, c1, c2, c3, c4⟩ := h2 r hr; exact ⟨by omega, by omega, by omega, by omega, by omega⟩⟩⟩

/-- One more rule is put behind. -/
theorem RlW.put {B : Nat} {w1 w2 : World} {v v2 : Value} {rs : List Rl} {Q : List Q5} {q : Q5} {r : Rl} (hl : Q.length = rs.length) (h : w1.ownsRow B 52 5 v rs.length (q5C Q)) (hr : ∀ k (h : k < rs.length) (h' : k < Q.length), RuW B w1 Q[k] rs[k]) (hq : RuW B w1 q r)
    (ho : w2.ownsRow B 52 5 v2 (rs.length + 1) (q5C Q ++ q5L q)) (hg : w1.grownBy w2 v.ownBlock) : RlW B w2 v2 (rs ++ [r]) := by
  have K : Kept (fun k => v.ownBlock = some k) w1 w2 := Kept.of_grown hg (fun _ h => h)
  have o9 := off_own h (by decide : 52 ≠ 9)
  refine ⟨Q ++ [q], by simp [hl], ?_, fun k h1 h2 => ?_⟩
  · rw [q5C_append, List.length_append]
    simpa [q5C] using ho
  · by_cases e : k < rs.length
    · rw [List.getElem_append_left e, List.getElem_append_left (by omega)]
      exact (hr k e (by omega)).off K o9
    · have e2 : k = rs.length := by simp at h1; omega
      subst e2
      simp only [List.getElem_append_right (Nat.le_refl _), List.getElem_append_right (Nat.le_of_eq hl)]
      simpa using hq.off K o9

theorem q5L_one {B : Nat} {w : World} {q : Q5} {r : Rl} (h : RuW B w q r) : ∀ u ∈ q5L q, u.oneCell' = true := fun u hu => by
  obtain ⟨⟨a0, c0, e0, -⟩, ⟨a1, c1, e1, -⟩, ⟨a2, c2, e2, -⟩, ⟨a3, c3, e3, -⟩, ⟨a4, c4, e4, -⟩⟩ := And.intro h.1.shape (And.intro h.2.1.shape (And.intro h.2.2.1.shape (And.intro h.2.2.2.1.shape h.2.2.2.2.shape)))
  simp only [q5L, List.mem_cons, List.not_mem_nil, or_false] at hu
  rcases hu with rfl | rfl | rfl | rfl | rfl
  · rw [e0]; rfl
  · rw [e1]; rfl
  · rw [e2]; rfl
  · rw [e3]; rfl
  · rw [e4]; rfl

/-- The copy behind i schemas. -/
structure C1 (w wr : World) (A : Nat) (z : Array Value) (x0 x1 x2 x3 : Int) (vL vS : Value) (L : List Lv) (S : List Sc) (vo : Value) (i : Nat) : Prop where
  bel : Below w.heap.size w wr
  box : Blk wr A 29 #[.int .i64 x0, .int .i64 x1, .int .i64 x2, .int .i64 x3, vL, vS]
  res : Blk wr (A + 1) 29 z
  lv : LvW w.heap.size wr vL L
  out : ∃ V, ScW w.heap.size wr vo (S.take i) V

section
variable {w wr w1 w2 : World} {A : Nat} {z : Array Value} {x0 x1 x2 x3 : Int} {vL vS vo v2 u : Value} {L : List Lv} {S : List Sc} {i : Nat} {V : List Value}
theorem C1.grown (h : C1 w wr A z x0 x1 x2 x3 vL vS L S vo i) (b : Below wr.heap.size wr w1) : C1 w w1 A z x0 x1 x2 x3 vL vS L S vo i := by
  obtain ⟨V, hV⟩ := h.out
  have k : Kept (fun _ => False) wr w1 := Kept.of_below b _
  exact ⟨h.bel.trans (b.mono h.bel.size), h.box.kept k id, h.res.kept k id, h.lv.grown b, V, hV.grown b⟩
end

section
variable {w wr w1 w2 : World} {A : Nat} {z : Array Value} {x0 x1 x2 x3 : Int} {vL vS vo v2 u : Value} {L : List Lv} {S : List Sc} {i : Nat} {V : List Value}
theorem C1.step (h : C1 w wr A z x0 x1 x2 x3 vL vS L S vo i) (hi : i < S.length) (hV : ScW w.heap.size wr vo (S.take i) V) (b : Below wr.heap.size wr w1) (hu : RlW wr.heap.size w1 u S[i].rules)
    (ho : w2.ownsRow w.heap.size 46 5 v2 (i + 1) (scCs (S.take i) V ++ scC S[i] u)) (hg : w1.grownBy w2 vo.ownBlock) (hs : w.heap.size ≤ wr.heap.size) : C1 w w2 A z x0 x1 x2 x3 vL vS L S v2 (i + 1) := by
  have V1 := hV.grown b
  have G1 := h.grown b
  have K : Kept (fun k => vo.ownBlock = some k) w1 w2 := Kept.of_grown hg (fun _ h => h)
  have hlen : (S.take i).length = i := by rw [List.length_take]; omega
  have hB : Below w.heap.size w1 w2 := K.below (Nat.le_trans hs b.size) (fun k hk => (V1.own.lt k hk).1)
  have P := ScW.put (s := S[i]) V1 (hu.mono hs) (fun k hk g hg1 hg2 => by
    have h1 := ((hV.rls k (by rw [← hV.len]; exact hk) hk).lt hg1).2
    have h2 := (hu.lt hg2).1
    omega) (by rw [hlen]; exact ho) hg
  rw [List.take_append_getElem hi] at P
  exact ⟨G1.bel.trans hB, G1.box.kept K (fun e => off_own V1.own (by decide : 46 ≠ 29) A _ G1.box e), G1.res.kept K (fun e => off_own V1.own (by decide : 46 ≠ 29) _ _ G1.res e), LvW.off G1.lv K (off_own V1.own (by decide : 46 ≠ 54)), _, P⟩
end

/-- The rules of one schema behind k of them. -/
structure C2 (wr w2 : World) (g : Nat) (c : Array Value) (rs : List Rl) (vr : Value) (k : Nat) : Prop where
  bel : Below wr.heap.size wr w2
  box : Blk w2 g 46 c
  rls : RlW wr.heap.size w2 vr (rs.take k)

theorem C2.grown {wr w2 w3 : World} {g : Nat} {c : Array Value} {rs : List Rl} {vr : Value} {k : Nat} (h : C2 wr w2 g c rs vr k) (b : Below w2.heap.size w2 w3) : C2 wr w3 g c rs vr k :=
  ⟨h.bel.trans (b.mono h.bel.size), h.box.kept (Kept.of_below b (fun _ => False)) id, h.rls.off (Kept.of_below b (fun _ => False)) (Off.none _ _) (Off.none _ _)⟩

end Go.Proofs.Ytijjpblmnlednaa
