/-
  What 'FaultTells' of the statements needs: what its own variables hold behind the append of the last link. Conditions: as each says.
-/
import Derived.Test.YtndandkanamjoaaDoorErr
namespace Go.Proofs.YtndandkanamjoaaDoor
open Go.RowKit Go.Lib

/-- What the statement's own variables hold, from call to call: the chain's list at cb, the Fault behind it. -/
structure Tl (w wx : World) (cb : Nat) (code : Int) (a : Option Addr) (n c : Nat) (Q : List Lk) (L0 : Int) (S0 : ByteArray) (q : Value) : Prop where
  bel : Below w.heap.size w wx
  et : ET wx
  tab : Tab wx
  lt : cb + 1 < wx.heap.size
  c0 : wx.cell? ⟨cb, 0, none⟩ = some (.int .i64 code)
  c1 : wx.cell? ⟨cb, 1, none⟩ = some (.slice a n c)
  f0 : wx.cell? ⟨cb + 1, 0, none⟩ = some (.int .i64 L0)
  f1 : wx.cell? ⟨cb + 1, 1, none⟩ = some (.string S0)
  f2 : wx.cell? ⟨cb + 1, 2, none⟩ = some q
  row : RowK wx a Q
theorem Tl.step {w wx wy : World} {cb : Nat} {code : Int} {a : Option Addr} {n c : Nat} {Q : List Lk} {L0 : Int} {S0 : ByteArray} {q : Value} (h : Tl w wx cb code a n c Q L0 S0 q) (b : Below wx.heap.size wx wy) : Tl w wy cb code a n c Q L0 S0 q := by
  have l1 := h.lt
  exact ⟨h.bel.trans (b.mono h.bel.size), h.et.stays b, h.tab.stays b, Nat.lt_of_lt_of_le h.lt b.size, (b.cell (p := ⟨cb, 0, none⟩) (by simp only; omega)).trans h.c0, (b.cell (p := ⟨cb, 1, none⟩) (by simp only; omega)).trans h.c1,
    (b.cell (p := ⟨cb + 1, 0, none⟩) h.lt).trans h.f0, (b.cell (p := ⟨cb + 1, 1, none⟩) h.lt).trans h.f1, (b.cell (p := ⟨cb + 1, 2, none⟩) h.lt).trans h.f2, h.row.stays b⟩
theorem Tl.drew {w wx : World} {cb : Nat} {code : Int} {a : Option Addr} {n c : Nat} {Q : List Lk} {L0 : Int} {S0 : ByteArray} {q : Value} (h : Tl w wx cb code a n c Q L0 S0 q) : Tl w wx.drew cb code a n c Q L0 S0 q :=
  ⟨h.bel.drew, h.et, h.tab, h.lt, h.c0, h.c1, h.f0, h.f1, h.f2, h.row⟩
theorem TLS {w wx wy : World} {cb : Nat} {code : Int} {a : Option Addr} {n c : Nat} {Q : List Lk} {L0 : Int} {S0 : ByteArray} {q : Value} (h : Hd (Tl w wx cb code a n c Q L0 S0 q)) (b : Below wx.heap.size wx wy) : Hd (Tl w wy cb code a n c Q L0 S0 q) := ⟨h.out.step b⟩

/-- The three blocks ahead of the append. -/
structure Pre (w w2 wz : World) (code : Int) (v : Value) (Q : List Lk) (L0 : Int) (S0 : ByteArray) (q : Value) (B : Nat) : Prop where
  bel : Below w.heap.size w w2
  b2 : Below w2.heap.size w2 wz
  sz : wz.heap.size = w2.heap.size + 3
  c0 : wz.cell? ⟨w2.heap.size, 0, none⟩ = some (.int .i64 code)
  c1 : wz.cell? ⟨w2.heap.size, 1, none⟩ = some v
  g1 : wz.frozen? ⟨w2.heap.size, 1, none⟩ = false
  f0 : wz.cell? ⟨w2.heap.size + 1, 0, none⟩ = some (.int .i64 L0)
  f1 : wz.cell? ⟨w2.heap.size + 1, 1, none⟩ = some (.string S0)
  f2 : wz.cell? ⟨w2.heap.size + 1, 2, none⟩ = some q
  own : OwnK B wz v Q
  own2 : OwnK B w2 v Q
theorem pre_new {w w2 : World} {code : Int} {v : Value} {Q : List Lk} {B : Nat} (b : Below w.heap.size w w2) (ho : OwnK B w2 v Q) (L0 : Int) (S0 : ByteArray) (q : Value) :
    Pre w w2 (((w2.alloc (.cells #[.int .i64 code, v] 28)).alloc (.cells #[.int .i64 L0, .string S0, q] 44)).alloc (.cells #[.int .i64 L0, .string S0] 50)) code v Q L0 S0 q B := by
  have bA : Below w2.heap.size w2 (w2.alloc (.cells #[.int .i64 code, v] 28)) := (Below.refl _ _).alloc (Nat.le_refl _) _
  have a0 : (w2.alloc (.cells #[.int .i64 code, v] 28)).cell? ⟨w2.heap.size, 0, none⟩ = some (.int .i64 code) := by simp
  have a1 : (w2.alloc (.cells #[.int .i64 code, v] 28)).cell? ⟨w2.heap.size, 1, none⟩ = some v := by simp
  have a2 : (w2.alloc (.cells #[.int .i64 code, v] 28)).frozen? ⟨w2.heap.size, 1, none⟩ = false := by simp
  have sA : (w2.alloc (.cells #[.int .i64 code, v] 28)).heap.size = w2.heap.size + 1 := by simp
  have oA := ho.alloc (.cells #[.int .i64 code, v] 28)
  generalize w2.alloc (.cells #[.int .i64 code, v] 28) = wA at *
  have bB : Below wA.heap.size wA (wA.alloc (.cells #[.int .i64 L0, .string S0, q] 44)) := (Below.refl _ _).alloc (Nat.le_refl _) _
  have e0 : (wA.alloc (.cells #[.int .i64 L0, .string S0, q] 44)).cell? ⟨wA.heap.size, 0, none⟩ = some (.int .i64 L0) := by simp
  have e1 : (wA.alloc (.cells #[.int .i64 L0, .string S0, q] 44)).cell? ⟨wA.heap.size, 1, none⟩ = some (.string S0) := by simp
  have e2 : (wA.alloc (.cells #[.int .i64 L0, .string S0, q] 44)).cell? ⟨wA.heap.size, 2, none⟩ = some q := by simp
  have sB : (wA.alloc (.cells #[.int .i64 L0, .string S0, q] 44)).heap.size = wA.heap.size + 1 := by simp
  have oB := oA.alloc (.cells #[.int .i64 L0, .string S0, q] 44)
  generalize wA.alloc (.cells #[.int .i64 L0, .string S0, q] 44) = wB at *
  have bC : Below wB.heap.size wB (wB.alloc (.cells #[.int .i64 L0, .string S0] 50)) := (Below.refl _ _).alloc (Nat.le_refl _) _
  have sC : (wB.alloc (.cells #[.int .i64 L0, .string S0] 50)).heap.size = wB.heap.size + 1 := by simp
  have oC := oB.alloc (.cells #[.int .i64 L0, .string S0] 50)
  generalize wB.alloc (.cells #[.int .i64 L0, .string S0] 50) = wC at *
  rw [sA] at e0 e1 e2
  exact ⟨b, bA.trans ((bB.mono (by omega)).trans (bC.mono (by omega))), by omega,
    (bC.cell (p := ⟨w2.heap.size, 0, none⟩) (by simp only; omega)).trans ((bB.cell (p := ⟨w2.heap.size, 0, none⟩) (by simp only; omega)).trans a0),
    (bC.cell (p := ⟨w2.heap.size, 1, none⟩) (by simp only; omega)).trans ((bB.cell (p := ⟨w2.heap.size, 1, none⟩) (by simp only; omega)).trans a1),
    (bC.frozen (p := ⟨w2.heap.size, 1, none⟩) (by simp only; omega)).trans ((bB.frozen (p := ⟨w2.heap.size, 1, none⟩) (by simp only; omega)).trans a2),
    (bC.cell (p := ⟨w2.heap.size + 1, 0, none⟩) (by simp only; omega)).trans e0, (bC.cell (p := ⟨w2.heap.size + 1, 1, none⟩) (by simp only; omega)).trans e1, (bC.cell (p := ⟨w2.heap.size + 1, 2, none⟩) (by simp only; omega)).trans e2, oC, ho⟩

/-- Behind the append, and behind the store of the new list. -/
theorem pre_fin {w w2 wz w6 : World} {code : Int} {v : Value} {a : Option Addr} {n c : Nat} {a0 : Option Addr} {n0 c0 : Nat} {Q : List Lk} {L0 : Int} {S0 : ByteArray} {q : Value} {B : Nat} (hv : v = .slice a0 n0 c0) (h : Pre w w2 wz code v Q L0 S0 q B) (he : ET w) (hT : Tab w) (hB : w.heap.size ≤ B)
    (hg : wz.grownBy w6 v.ownBlock) (ho : w6.ownsRow B 50 2 (.slice a n c) n (cl Q ++ [.int .i64 L0, .string S0])) (hn : n = Q.length + 1) :
    w6.cell? ⟨w2.heap.size, 1, none⟩ = some v ∧ w6.frozen? ⟨w2.heap.size, 1, none⟩ = false ∧ Tl w (w6.setCell ⟨w2.heap.size, 1, none⟩ (.slice a n c)) w2.heap.size code a n c (Q ++ [(⟨L0, S0⟩ : Lk)]) L0 S0 q := by
  have hsz := h.sz
  have e : ∀ k, w2.heap.size ≤ k → k < wz.heap.size → w6.heap[k]? = wz.heap[k]? := fun k h1 h2 => hg.block k h2 (fun e => by have := (h.own2.lt k e.symm).2; omega)
  have e0 := e w2.heap.size (Nat.le_refl _) (by omega)
  have e1 := e (w2.heap.size + 1) (by omega) (by omega)
  have k1 : w6.cell? ⟨w2.heap.size, 1, none⟩ = some v := (World.cell?_of_block (a := ⟨w2.heap.size, 1, none⟩) e0).trans h.c1
  have k2 : w6.frozen? ⟨w2.heap.size, 1, none⟩ = false := (World.frozen?_of_block (a := ⟨w2.heap.size, 1, none⟩) e0).trans h.g1
  have b6 : Below w.heap.size w w6 := by
    have h1 : Below w.heap.size w wz := h.bel.trans (h.b2.mono h.bel.size)
    exact h1.grown hg h1.size (fun k hk => Nat.le_trans hB (h.own2.lt k hk).1)
  have bf : Below w.heap.size w (w6.setCell ⟨w2.heap.size, 1, none⟩ (.slice a n c)) := b6.setCell (p := ⟨w2.heap.size, 1, none⟩) h.bel.size _
  have ho' : w6.ownsRow B 50 2 (.slice a (Q ++ [(⟨L0, S0⟩ : Lk)]).length c) (Q ++ [(⟨L0, S0⟩ : Lk)]).length (cl (Q ++ [(⟨L0, S0⟩ : Lk)])) := by
    rw [cl_snoc, List.length_append]; subst hn; exact ho
  have hne : (Value.slice a n c).ownBlock ≠ some w2.heap.size := by
    intro hc
    have hb : a = some ⟨w2.heap.size, 0, none⟩ := by
      rcases ho.2 with ⟨hh, _⟩ | ⟨g, cap, cur, hh, _⟩
      · injection hh with _ hh _; omega
      · injection hh with hh _ _
        subst hh
        simp [Value.ownBlock] at hc
        rw [hc]
    subst hb
    have h1 := World.ownsRow.cellAt ho' 1 (by simp; omega)
    obtain ⟨z, hz⟩ : ∃ z, (cl (Q ++ [(⟨L0, S0⟩ : Lk)]))[1]? = some (.string z) := by
      have := (cl_at (Q ++ [(⟨L0, S0⟩ : Lk)]) 0 (by simp)).2
      exact ⟨_, this⟩
    rw [hz, k1, hv] at h1
    cases h1
  have of_ : OwnK B (w6.setCell ⟨w2.heap.size, 1, none⟩ (.slice a n c)) (.slice a (Q ++ [(⟨L0, S0⟩ : Lk)]).length c) (Q ++ [(⟨L0, S0⟩ : Lk)]) := by
    refine World.ownsRow.kept ho' (row := some w2.heap.size) ⟨rfl, rfl, rfl, by simp [World.setCell], fun k _ hk => Below.heap_setCell _ _ _ _ (fun e => hk (by rw [e]))⟩ (.inr ?_)
    intro hc
    apply hne
    rcases ho.2 with ⟨hh, _⟩ | ⟨g, cap, cur, hh, _⟩
    · injection hh with _ hh _; omega
    · injection hh with hh _ _
      subst hh
      simpa [Value.ownBlock] using hc
  have e1' : (w6.setCell ⟨w2.heap.size, 1, none⟩ (.slice a n c)).heap[w2.heap.size + 1]? = wz.heap[w2.heap.size + 1]? := (Below.heap_setCell _ _ _ _ (by simp)).trans e1
  refine ⟨k1, k2, bf, he.stays bf, hT.stays bf, ?_, ?_, ?_, ?_, ?_, ?_, row_of of_⟩
  · have := hg.size; simp [World.setCell]; omega
  · rw [World.cell?_setCell_other _ _ _ _ (by simp)]
    exact (World.cell?_of_block (a := ⟨w2.heap.size, 0, none⟩) e0).trans h.c0
  · exact World.cell?_setCell_same _ _ _ k1
  · exact (World.cell?_of_block (a := ⟨w2.heap.size + 1, 0, none⟩) e1').trans h.f0
  · exact (World.cell?_of_block (a := ⟨w2.heap.size + 1, 1, none⟩) e1').trans h.f1
  · exact (World.cell?_of_block (a := ⟨w2.heap.size + 1, 2, none⟩) e1').trans h.f2

/-- What is found lies in the chain, or is nothing. -/
theorem near_mem (p : Int → ByteArray → Bool) : ∀ ls : List Lk, near p ls = ⟨0, ⟨#[]⟩⟩ ∨ near p ls ∈ ls
  | [] => .inl rfl
  | l :: ls => by
    cases h : p l.line l.what with
    | true => rw [near_yes h]; exact .inr List.mem_cons_self
    | false =>
      rw [near_no h]
      rcases near_mem p ls with h1 | h1
      · exact .inl h1
      · exact .inr (List.mem_cons_of_mem _ h1)
def Small (l : Lk) : Prop := l.line ≤ 9223372036854775807 ∧ l.what.size ≤ 140737488351232
theorem near_small (p : Int → ByteArray → Bool) (ls : List Lk) (h : ∀ l ∈ ls, Small l) : Small (near p ls) := by
  rcases near_mem p ls with h1 | h1
  · rw [h1]; exact ⟨by simp, by decide⟩
  · exact h _ h1
theorem lks_small (f : Nat → Wp) (k : Nat) (h : ∀ j, j < k → WfI (f j).line ∧ (f j).what.size ≤ 140737488351232) : ∀ l ∈ lks f k, Small l := by
  intro l hl
  unfold lks at hl
  obtain ⟨j, hj, rfl⟩ := List.mem_map.1 hl
  obtain ⟨h1, h2⟩ := h j (List.mem_range.1 hj)
  have := h1.2
  unfold lkOf
  cases ((IntKind.u64.wrap (f j).kind).tmod 3 == 0) with
  | true => exact ⟨by show (f j).line ≤ _; omega, by show (⟨#[]⟩ : ByteArray).size ≤ _; decide⟩
  | false =>
    cases ((IntKind.u64.wrap (f j).kind).tmod 3 == 1) with
    | true => exact ⟨by show (0 : Int) ≤ _; decide, h2⟩
    | false => exact ⟨by show (f j).line ≤ _; omega, h2⟩

end Go.Proofs.YtndandkanamjoaaDoor
