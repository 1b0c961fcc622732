/-
  Two lanes side by side, in boxes that are written anew; a script's steps as they are read; an operation that is taken first since what it must precede waits for it by way of another one. No condition.
-/
import Derived.Test.YtbnjjckcnlfapaaLo
import Derived.Test.YtbnjjckcnlfapaaLa
namespace Go.Proofs.Ytbnjjckcnlfapaa
open Go.RowKit

section
variable {P : Program} {ops : Array Oper} {Q : Exit → Act → World → Prop} {md : Region.Mode} {T U : World → Prop} {j0 : Nat}
theorem not_ready {l : Array Bool} {i j : Nat} (hw : waits md ops j i = true) (hun : l.getD i true = false) : j ∉ Region.ready md ops l := fun hj => by
  obtain ⟨_, oj, hoj, hall⟩ := mem_ready.1 hj
  unfold waits at hw
  rw [hoj] at hw
  obtain ⟨e, he, hb⟩ := Array.any_eq_true'.1 hw
  simp only [Bool.and_eq_true, beq_iff_eq] at hb
  have h1 := hall e he hb.1
  rw [hb.2] at h1
  rcases Nat.lt_or_ge i l.size with h' | h'
  · simp [h'] at h1 hun; rw [hun] at h1; cases h1
  · simp [Array.getElem?_eq_none h'] at h1
/-- What yields under T and U, and is waited for by one that number j0 waits for, is taken first. -/
theorem AnyG.e2 (i d p : Nat) {oi : Oper} {v : Value} {n : Nat} {l : Array Bool} {a : Act} {w : World} (hT : T w ∧ (l.getD j0 true = false → U w))
    (h : AnyG P md ops Q T U j0 n (l.setIfInBounds i true) ⟨a.tmps.setIfInBounds d v, a.defers⟩ w)
    (hi : ops[i]? = some oi := by rfl) (hd : oi.dst = some d := by rfl) (hb : Rok md ops l i j0 = true := by kernel_rfl) (h2 : (waits md ops j0 p && (waits md ops p i && (!(l.getD j0 true) && !(l.getD p true)))) = true := by kernel_rfl)
    (hQ : ∀ c a w, Q (.panic c) (a.put oi.dst v) w → Q (.panic c) a w := by exact fun _ _ _ h => h)
    (hw : Region.wanted oi (yielded ops a.tmps) = true := by rfl) (hy : ∀ w, T w ∧ U w → (execOp a.eval oi).run P w = .ok (.value v) w) : AnyG P md ops Q T U j0 (n + 1) l a w := by
  obtain ⟨r1, r2, r3, r4⟩ := Rok.out hb
  rw [Bool.and_eq_true, Bool.and_eq_true, Bool.and_eq_true] at h2
  obtain ⟨w1, w2, w3, w4⟩ := h2
  have l0 : l.getD j0 true = false := by simpa using w3
  have lp : l.getD p true = false := by simpa using w4
  refine AnyG.first (J := fun l => l.getD j0 true = false ∧ l.getD p true = false) (V := fun w => T w ∧ U w) hi r4 (Region.noSelect_spec r1) hQ (fun l j hj hun hj' _ => ?_) (fun l w hj hT hU => ⟨hT, hU hj.1⟩) n l a w (Region.free_spec hi r2) (by simpa using r3) (.inl ⟨hw, hy⟩) ⟨l0, lp⟩ hT.1 hT.2 (by rw [put_at hd]; exact h)
  have n1 : j ≠ j0 := fun e => not_ready w1 hj.2 (e ▸ hj')
  have n2 : j ≠ p := fun e => not_ready w2 hun (e ▸ hj')
  exact ⟨by rw [getD_set_ne true n1]; exact hj.1, by rw [getD_set_ne true n2]; exact hj.2⟩
end

/-- Two lanes side by side. -/
structure PL (w W : World) (A g3 g4 : Nat) (s : Int) (L : List Tk) : Prop where
  l3 : ∃ a c, Blk W g3 25 (lnA s (.slice a L.length c)) ∧ SlR W a c L
  l4 : ∃ a c, Blk W g4 25 (lnA s (.slice a L.length c)) ∧ SlR W a c L
  bel : Below A w W
  le3 : A ≤ g3
  le4 : A ≤ g4
  ne : g3 ≠ g4
theorem PL.carry {w W W' : World} {A g3 g4 : Nat} {s : Int} {L : List Tk} (h : PL w W A g3 g4 s L) (b : Below W.heap.size W W') : PL w W' A g3 g4 s L := by
  obtain ⟨a, c, k, r⟩ := h.l3
  obtain ⟨a', c', k', r'⟩ := h.l4
  have := k.lt
  have := h.le3
  exact ⟨⟨a, c, Blk.carry k b, r.carry b⟩, ⟨a', c', Blk.carry k' b, r'.carry b⟩, h.bel.trans (b.mono (by omega)), h.le3, h.le4, h.ne⟩
/-- Both are put anew. -/
theorem PL.put {w W : World} {A g3 g4 : Nat} {s : Int} {L : List Tk} (h : PL w W A g3 g4 s L) {s' : Int} {X : List Tk} {n : Nat} (hn : X.length = n) {a c b d : _} (r3 : SlR W a c X) (r4 : SlR W b d X) :
    (∃ z v z' v', Blk W g3 25 (lnA z v) ∧ Blk ((W.setCell ⟨g3, 0, none⟩ (.int .u64 s')).setCell ⟨g3, 1, none⟩ (.slice a n c)) g4 25 (lnA z' v'))
    ∧ Kept (fun k => k = g3) W ((W.setCell ⟨g3, 0, none⟩ (.int .u64 s')).setCell ⟨g3, 1, none⟩ (.slice a n c))
    ∧ Kept (fun k => k = g3 ∨ k = g4) W ((((W.setCell ⟨g3, 0, none⟩ (.int .u64 s')).setCell ⟨g3, 1, none⟩ (.slice a n c)).setCell ⟨g4, 0, none⟩ (.int .u64 s')).setCell ⟨g4, 1, none⟩ (.slice b n d))
    ∧ PL w ((((W.setCell ⟨g3, 0, none⟩ (.int .u64 s')).setCell ⟨g3, 1, none⟩ (.slice a n c)).setCell ⟨g4, 0, none⟩ (.int .u64 s')).setCell ⟨g4, 1, none⟩ (.slice b n d)) A g3 g4 s' X := by
  subst hn
  obtain ⟨a3, c3, k3, -⟩ := h.l3
  obtain ⟨a4, c4, k4, -⟩ := h.l4
  obtain ⟨q1, q2⟩ := lane_set k3 s' (.slice a X.length c)
  have k4' := Blk.kept k4 q2 (Ne.symm h.ne)
  obtain ⟨u1, u2⟩ := lane_set k4' s' (.slice b X.length d)
  have x3 := (r3.lane k3 q2).lane k4' u2
  have x4 := (r4.lane k3 q2).lane k4' u2
  have hl := k3.lt
  have h3 := h.le3
  have h4 := h.le4
  have kk : Kept (fun k => k = g3 ∨ k = g4) W ((((W.setCell ⟨g3, 0, none⟩ (.int .u64 s')).setCell ⟨g3, 1, none⟩ (.slice a X.length c)).setCell ⟨g4, 0, none⟩ (.int .u64 s')).setCell ⟨g4, 1, none⟩ (.slice b X.length d)) := (q2.mono (fun _ _ e => .inl e)).trans (u2.mono (fun _ _ e => .inr e))
  exact ⟨⟨_, _, _, _, k3, k4'⟩, q2, kk, ⟨a, c, Blk.kept q1 u2 h.ne, x3⟩, ⟨b, d, u1, x4⟩, h.bel.trans (kk.below (by omega) (fun k e => by omega)), h.le3, h.le4, h.ne⟩

/-- A step of a script. -/
structure Oq where
  dd : Int
  rr : Int
  tt : Tk
  nn : Int
/-- Steps that are read. -/
def OpR (w : World) (a : Option Addr) (n : Nat) (o : Nat → Oq) : Prop := 0 < n → ∃ b off, a = some ⟨b, off, none⟩ ∧ b < w.heap.size ∧ ∀ k, k < n → (w.cell? ⟨b, off + k * 8, none⟩ = some (.int .i64 (o k).dd) ∧ w.cell? ⟨b, off + k * 8 + 1, none⟩ = some (.int .u64 (o k).rr) ∧ w.cell? ⟨b, off + k * 8 + 2, none⟩ = some (.int .i64 (o k).tt.id) ∧ w.cell? ⟨b, off + k * 8 + 3, none⟩ = some (.int .i64 (o k).tt.wid) ∧ w.cell? ⟨b, off + k * 8 + 4, none⟩ = some (.int .i64 (o k).tt.sts) ∧ w.cell? ⟨b, off + k * 8 + 5, none⟩ = some (.int .i64 (o k).tt.sin) ∧ w.cell? ⟨b, off + k * 8 + 6, none⟩ = some (.int .i64 (o k).tt.unt) ∧ w.cell? ⟨b, off + k * 8 + 7, none⟩ = some (.int .i64 (o k).nn)) ∧ Word (o k).rr
def opA (o : Oq) : Array Value := #[.int .i64 o.dd, .int .u64 o.rr, .int .i64 o.tt.id, .int .i64 o.tt.wid, .int .i64 o.tt.sts, .int .i64 o.tt.sin, .int .i64 o.tt.unt, .int .i64 o.nn]
theorem OpR.carry {w w' : World} {a : Option Addr} {n : Nat} {o : Nat → Oq} (h : OpR w a n o) (b : Below w.heap.size w w') : OpR w' a n o := fun hn => by
  obtain ⟨q, off, rfl, hg, hc⟩ := h hn
  refine ⟨q, off, rfl, Nat.lt_of_lt_of_le hg b.size, fun k hk => ?_⟩
  obtain ⟨⟨x0, x1, x2, x3, x4, x5, x6, x7⟩, hw⟩ := hc k hk
  exact ⟨⟨(b.cell (p := ⟨q, off + k * 8, none⟩) hg).trans x0, (b.cell (p := ⟨q, off + k * 8 + 1, none⟩) hg).trans x1, (b.cell (p := ⟨q, off + k * 8 + 2, none⟩) hg).trans x2, (b.cell (p := ⟨q, off + k * 8 + 3, none⟩) hg).trans x3, (b.cell (p := ⟨q, off + k * 8 + 4, none⟩) hg).trans x4, (b.cell (p := ⟨q, off + k * 8 + 5, none⟩) hg).trans x5, (b.cell (p := ⟨q, off + k * 8 + 6, none⟩) hg).trans x6, (b.cell (p := ⟨q, off + k * 8 + 7, none⟩) hg).trans x7⟩, hw⟩
theorem Blk.eight {w : World} {g : Nat} {o : Oq} (h : Blk w g 42 (opA o)) :
    w.cell? ⟨g, 0, none⟩ = some (.int .i64 o.dd) ∧ w.cell? ⟨g, 1, none⟩ = some (.int .u64 o.rr) ∧ w.cell? ⟨g, 2, none⟩ = some (.int .i64 o.tt.id) ∧ w.cell? ⟨g, 3, none⟩ = some (.int .i64 o.tt.wid) ∧ w.cell? ⟨g, 4, none⟩ = some (.int .i64 o.tt.sts) ∧ w.cell? ⟨g, 5, none⟩ = some (.int .i64 o.tt.sin) ∧ w.cell? ⟨g, 6, none⟩ = some (.int .i64 o.tt.unt) ∧ w.cell? ⟨g, 7, none⟩ = some (.int .i64 o.nn) :=
  ⟨h.cellv 0 rfl, h.cellv 1 rfl, h.cellv 2 rfl, h.cellv 3 rfl, h.cellv 4 rfl, h.cellv 5 rfl, h.cellv 6 rfl, h.cellv 7 rfl⟩
end Go.Proofs.Ytbnjjckcnlfapaa
