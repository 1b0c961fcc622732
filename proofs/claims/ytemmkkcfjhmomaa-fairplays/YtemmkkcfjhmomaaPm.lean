/-
  Two runs of lanes side by side, in boxes that are written anew; what holds step by step. No condition.
-/
import Derived.Test.YtemmkkcfjhmomaaRw
import Derived.Test.YtemmkkcfjhmomaaAw
namespace Go.Proofs.Ytemmkkcfjhmomaa
open Go.RowKit

/-- Two fairs that hold the same, in two boxes. -/
structure PF (w W : World) (gf gg : Nat) (x : Fa) : Prop where
  bel : Below w.heap.size w W
  lf : w.heap.size ≤ gf
  lt : gf < gg
  f : ∃ a c, Blk W gf 25 (faA x.r x.g x.n x.o (.slice a x.F.length c)) ∧ StR (fun j => j = gf ∨ j = gg) W a c x.F
  g : ∃ a c, Blk W gg 25 (faA x.r x.g x.n x.o (.slice a x.F.length c)) ∧ StR (fun j => j = gf ∨ j = gg) W a c x.F
section
variable {w W W' : World} {gf gg : Nat} {x : Fa}
theorem PF.hi (h : PF w W gf gg x) : gg < W.heap.size := by
  obtain ⟨a, c, k, -⟩ := h.g
  exact k.lt
theorem PF.mv (h : PF w W gf gg x) : ∀ j, (j = gf ∨ j = gg) → j < W.heap.size := fun j e => by
  have := h.hi
  have := h.lt
  omega
theorem PF.carry (h : PF w W gf gg x) (b : Below W.heap.size W W') : PF w W' gf gg x := by
  obtain ⟨a, c, k1, k2⟩ := h.f
  obtain ⟨a', c', l1, l2⟩ := h.g
  exact ⟨h.bel.trans (b.mono h.bel.size), h.lf, h.lt, ⟨a, c, k1.kept (Kept.of_below b (fun _ => False)) id, k2.step (Kept.of_below b _) (fun _ _ e => e)⟩, ⟨a', c', l1.kept (Kept.of_below b (fun _ => False)) id, l2.step (Kept.of_below b _) (fun _ _ e => e)⟩⟩
/-- Both boxes are written anew. -/
theorem PF.put (h : PF w W gf gg x) {y : Fa} {a b : Option Addr} {c d : Nat} (r3 : StR (fun j => j = gf ∨ j = gg) W a c y.F) (r4 : StR (fun j => j = gf ∨ j = gg) W b d y.F) :
    ∃ W1 W2, W1 = (((((W.setCell ⟨gf, 0, none⟩ (.int .u64 y.r)).setCell ⟨gf, 1, none⟩ (.int .i64 y.g)).setCell ⟨gf, 2, none⟩ (.int .i64 y.n)).setCell ⟨gf, 3, none⟩ (.int .i64 y.o)).setCell ⟨gf, 4, none⟩ (.slice a y.F.length c)) ∧ W2 = (((((W1.setCell ⟨gg, 0, none⟩ (.int .u64 y.r)).setCell ⟨gg, 1, none⟩ (.int .i64 y.g)).setCell ⟨gg, 2, none⟩ (.int .i64 y.n)).setCell ⟨gg, 3, none⟩ (.int .i64 y.o)).setCell ⟨gg, 4, none⟩ (.slice b y.F.length d)) ∧
    (∃ v, Blk W gf 25 (faA x.r x.g x.n x.o v)) ∧ (∃ v, Blk W1 gg 25 (faA x.r x.g x.n x.o v)) ∧ Kept (fun j => j = gf ∨ j = gg) W W1 ∧ Kept (fun j => j = gf ∨ j = gg) W W2 ∧ PF w W2 gf gg y := by
  obtain ⟨a3, c3, k3, -⟩ := h.f
  obtain ⟨a4, c4, k4, -⟩ := h.g
  obtain ⟨q1, q2⟩ := fair_set k3 y.r y.g y.n y.o (.slice a y.F.length c)
  obtain ⟨W1, hW1⟩ : ∃ W1, W1 = (((((W.setCell ⟨gf, 0, none⟩ (.int .u64 y.r)).setCell ⟨gf, 1, none⟩ (.int .i64 y.g)).setCell ⟨gf, 2, none⟩ (.int .i64 y.n)).setCell ⟨gf, 3, none⟩ (.int .i64 y.o)).setCell ⟨gf, 4, none⟩ (.slice a y.F.length c)) := ⟨_, rfl⟩
  rw [← hW1] at q1 q2
  have hlt := h.lt
  have hhi := h.hi
  have hlf := h.lf
  have k4' := k4.kept q2 (by omega)
  obtain ⟨u1, u2⟩ := fair_set k4' y.r y.g y.n y.o (.slice b y.F.length d)
  obtain ⟨W2, hW2⟩ : ∃ W2, W2 = (((((W1.setCell ⟨gg, 0, none⟩ (.int .u64 y.r)).setCell ⟨gg, 1, none⟩ (.int .i64 y.g)).setCell ⟨gg, 2, none⟩ (.int .i64 y.n)).setCell ⟨gg, 3, none⟩ (.int .i64 y.o)).setCell ⟨gg, 4, none⟩ (.slice b y.F.length d)) := ⟨_, rfl⟩
  rw [← hW2] at u1 u2
  have m1 : Kept (fun j => j = gf ∨ j = gg) W W1 := q2.mono (fun _ _ e => .inl e)
  have m2 : Kept (fun j => j = gf ∨ j = gg) W W2 := m1.trans (u2.mono (fun _ _ e => .inr e))
  exact ⟨W1, W2, hW1, hW2, ⟨_, k3⟩, ⟨_, k4'⟩, m1, m2, h.bel.trans (m2.below h.bel.size (fun j e => by omega)), h.lf, h.lt, ⟨a, c, q1.kept u2 (by omega), r3.step m2 (fun _ _ e => e)⟩, ⟨b, d, u1, r4.step m2 (fun _ _ e => e)⟩⟩
end
/-- What holds behind k steps. -/
structure IvP (k : Nat) (x : Fa) : Prop where
  few : Few x.F
  len : ∀ l ∈ x.F, l.L.length ≤ k
  r : Word x.r
theorem IvP.at {k : Nat} {x : Fa} (h : IvP k x) (j : Nat) : (gl x.F j).L.length ≤ k := by
  rcases Nat.lt_or_ge j x.F.length with c | c
  · exact h.len _ (gl_mem c)
  · rw [gl_out c]; exact Nat.zero_le _
theorem IvP.more {k : Nat} {x : Fa} (h : IvP k x) : IvP (k + 1) x := ⟨h.few, fun l hl => by have := h.len l hl; omega, h.r⟩
theorem IvP.new (o g n : Int) : IvP 0 (nwX o g n) := by
  refine ⟨nwX_few o g n, fun l hl => ?_, ?_⟩
  · unfold nwX at hl
    split at hl
    · have hl : l ∈ nwF o.toNat := hl
      rw [(List.mem_replicate.1 hl).2]
      exact Nat.le_refl _
    · cases hl
  · unfold nwX
    split <;> exact ⟨Int.le_refl _, (by decide : (0 : Int) < 18446744073709551616)⟩
theorem IvP.join {k : Nat} {x : Fa} (h : IvP k x) (hk : k ≤ 900) {c : Int} (hc : jnE x c = 0) (t : Tk) : IvP (k + 1) (jnX x c t) := by
  refine ⟨jnX_few h.few (fun j => by have := h.at j; omega) h.r c t, ?_, ?_⟩
  · rw [jnX_eq hc]
    intro l hl
    rcases List.mem_or_eq_of_mem_set hl with d | d
    · have := h.len l d; omega
    · rw [d]
      show ((gl x.F c.toNat).L ++ [t]).length ≤ k + 1
      have := h.at c.toNat
      rw [List.length_append, List.length_singleton]
      omega
  · rw [jnX_eq hc]; exact h.r
theorem IvP.take {k : Nat} {x : Fa} (h : IvP k x) : IvP (k + 1) (tkX x) := by
  refine ⟨tkX_few h.few, ?_, ?_⟩
  · unfold tkX
    split
    · exact h.more.len
    · intro l hl
      have hl : l ∈ tkF x.F (nxt x.F x.g).toNat x.g := List.mem_of_mem_take hl
      rcases List.mem_or_eq_of_mem_set hl with d | d
      · have := h.len l d; omega
      · rw [d]
        show (gl x.F (nxt x.F x.g).toNat).L.tail.length ≤ k + 1
        have := h.at (nxt x.F x.g).toNat
        rw [List.length_tail]
        omega
  · unfold tkX
    split
    · exact h.r
    · have h1 := h.r
      have h2 := fN_word (g := x.g) (h.few.at (nxt x.F x.g).toNat).1
      exact ⟨by show 0 ≤ max x.r _; have := h1.1; omega, by show max x.r _ < _; have := h1.2; have := h2.2; omega⟩
theorem IvP.drop {k : Nat} {x : Fa} (h : IvP k x) (i : Int) : IvP (k + 1) (dpX x i) := by
  refine ⟨dpX_few h.few i, ?_, ?_⟩
  · unfold dpX
    split
    · intro l hl
      have hl : l ∈ x.F.set (dpK x.F i) ⟨(gl x.F (dpK x.F i)).s, drL i (gl x.F (dpK x.F i)).L⟩ := List.mem_of_mem_take hl
      rcases List.mem_or_eq_of_mem_set hl with d | d
      · have := h.len l d; omega
      · rw [d]
        show (drL i (gl x.F (dpK x.F i)).L).length ≤ k + 1
        have := h.at (dpK x.F i)
        have := drL_len i (gl x.F (dpK x.F i)).L
        omega
    · exact h.more.len
  · unfold dpX
    split <;> exact h.r
theorem IvP.shape {k : Nat} {x : Fa} (h : IvP k x) {o g n : Int} (hg : nwE o g n = 0) : IvP (k + 1) (shX x o g n) := by
  have hg : Good o g n := Classical.byContradiction fun c => by
    unfold nwE at hg
    rw [if_neg c] at hg
    exact absurd hg (by decide)
  refine ⟨shX_few h.few o g n, ?_, ?_⟩
  · unfold shX
    rw [if_pos hg]
    intro l hl
    have hl : l ∈ shF x.F o.toNat := List.mem_of_mem_take hl
    rcases List.mem_append.1 hl with d | d
    · have := h.len l d; omega
    · rw [(List.mem_replicate.1 d).2]
      exact Nat.zero_le _
  · unfold shX
    rw [if_pos hg]
    exact h.r
theorem HnR.less {w : World} {a : Option Addr} {n m : Nat} {H : Nat → Int} (h : HnR w a n H) (e : m ≤ n) : HnR w a m H := fun hm => by
  obtain ⟨b, off, rfl, hb, hc⟩ := h (by omega)
  exact ⟨b, off, rfl, hb, fun k hk => hc k (by omega)⟩
/-- A step's box. -/
theorem Blk.sc {w : World} {g : Nat} {dd op t0 t1 t2 t3 t4 : Int} {v : Value} (h : Blk w g 54 #[.int .i64 dd, v, .int .i64 t0, .int .i64 t1, .int .i64 t2, .int .i64 t3, .int .i64 t4, .int .i64 op]) :
    w.cell? ⟨g, 0, none⟩ = some (.int .i64 dd) ∧ w.cell? ⟨g, 1, none⟩ = some v ∧ w.cell? ⟨g, 2, none⟩ = some (.int .i64 t0) ∧ w.cell? ⟨g, 3, none⟩ = some (.int .i64 t1) ∧ w.cell? ⟨g, 4, none⟩ = some (.int .i64 t2) ∧ w.cell? ⟨g, 5, none⟩ = some (.int .i64 t3) ∧ w.cell? ⟨g, 6, none⟩ = some (.int .i64 t4) ∧ w.cell? ⟨g, 7, none⟩ = some (.int .i64 op) :=
  ⟨h.cellv 0 rfl, h.cellv 1 rfl, h.cellv 2 rfl, h.cellv 3 rfl, h.cellv 4 rfl, h.cellv 5 rfl, h.cellv 6 rfl, h.cellv 7 rfl⟩
end Go.Proofs.Ytemmkkcfjhmomaa
