/-
  A configuration that is written over, whatever its blocks share: the room in its blocks between two marks. No condition.
-/
import Derived.Test.YtaodckojinbdfaaDoorCpV
namespace Go.Proofs.YtaodckojinbdfaaDoor.Cp
open Go.RowKit

/-- A list in which there is room, in blocks from B on, below N. -/
def LsZ (B N : Nat) (w : World) (v : Value) : Prop := ∃ a n c, v = .slice a n c ∧ n ≤ 100000 ∧ (0 < n → ∃ b off, a = some ⟨b, off, none⟩ ∧ (B ≤ b ∧ b < N) ∧ Rm w b 9 (off + n))
theorem LsZ.nil0 (B N : Nat) (w : World) : LsZ B N w (.slice none 0 0) := ⟨_, 0, 0, rfl, by decide, fun h => absurd h (Nat.lt_irrefl 0)⟩
/-- Rules, each cell a list. -/
def RZ (B N : Nat) (w : World) (a : Option Addr) (n : Nat) : Prop := 0 < n → ∃ g cur, a = some ⟨g, 0, none⟩ ∧ (B ≤ g ∧ g < N) ∧ Blk w g 51 cur ∧ n * 5 ≤ cur.size ∧ ∀ i, i < n * 5 → ∃ v, cur[i]? = some v ∧ LsZ B N w v
structure Zv (B N : Nat) (w : World) (eL : Option Addr) (nn : Nat) (eS : Option Addr) (mm : Nat) (V : List Value) : Prop where
  lev : 0 < nn → ∃ g, eL = some ⟨g, 0, none⟩ ∧ (B ≤ g ∧ g < N) ∧ Rm w g 46 (nn * 10)
  sch : 0 < mm → ∃ g cur, eS = some ⟨g, 0, none⟩ ∧ Blk w g 49 cur ∧ ∀ k (h : k < V.length), cur[k * 5 + 4]? = some V[k]
  rls : ∀ k (h : k < V.length), ∃ a n c, V[k] = .slice a n c ∧ n ≤ 100000 ∧ RZ B N w a n
  len : V.length = mm
section
variable {B N : Nat} {w w' : World} {v : Value} {eL eS a : Option Addr} {nn mm n : Nat} {V : List Value}
theorem Rm.grown {b t k : Nat} (h : Rm w b t k) (l : Below w.heap.size w w') : Rm w' b t k := by
  obtain ⟨cur, hb, hk⟩ := h
  exact ⟨cur, hb.kept (Kept.of_below l (fun _ => False)) id, hk⟩
theorem Rm.any {b t k g i : Nat} (h : Rm w b t k) (u : Value) : Rm (w.setCell ⟨g, i, none⟩ u) b t k := by
  by_cases e : b = g
  · subst e; exact h.set i u
  · obtain ⟨cur, hb, hk⟩ := h
    exact ⟨cur, hb.other e u, hk⟩
theorem LsZ.grown (h : LsZ B N w v) (l : Below w.heap.size w w') : LsZ B N w' v := by
  obtain ⟨a, n, c, e, h1, h2⟩ := h
  exact ⟨a, n, c, e, h1, fun hn => by obtain ⟨b, off, ea, hB, hr⟩ := h2 hn; exact ⟨b, off, ea, hB, hr.grown l⟩⟩
theorem LsZ.any {g i : Nat} (h : LsZ B N w v) (u : Value) : LsZ B N (w.setCell ⟨g, i, none⟩ u) v := by
  obtain ⟨a, n, c, e, h1, h2⟩ := h
  exact ⟨a, n, c, e, h1, fun hn => by obtain ⟨b, off, ea, hB, hr⟩ := h2 hn; exact ⟨b, off, ea, hB, hr.any u⟩⟩
theorem RZ.grown (h : RZ B N w a n) (l : Below w.heap.size w w') : RZ B N w' a n := fun hn => by
  obtain ⟨g, cur, e, hB, hg, hs, hc⟩ := h hn
  exact ⟨g, cur, e, hB, hg.kept (Kept.of_below l (fun _ => False)) id, hs, fun i hi => by obtain ⟨v, h1, h2⟩ := hc i hi; exact ⟨v, h1, h2.grown l⟩⟩
theorem RZ.any {g t i : Nat} {cur : Array Value} (h : RZ B N w a n) (hg : Blk w g t cur) (u : Value) (hu : t = 51 → LsZ B N w u) : RZ B N (w.setCell ⟨g, i, none⟩ u) a n := fun hn => by
  obtain ⟨g', cur', e, hB, hg', hs, hc⟩ := h hn
  by_cases e2 : g' = g
  · subst e2
    have ht : t = 51 := by
      unfold Blk at hg hg'
      rw [hg] at hg'
      cases hg'
      rfl
    refine ⟨g', _, e, hB, hg'.set i u, by simpa using hs, fun j hj => ?_⟩
    by_cases e3 : i = j
    · subst e3
      refine ⟨u, ?_, (hu ht).any u⟩
      rw [Array.getElem?_setIfInBounds_self_of_lt (by omega)]
    · obtain ⟨v, h1, h2⟩ := hc j hj
      exact ⟨v, by rw [Array.getElem?_setIfInBounds_ne e3]; exact h1, h2.any u⟩
  · exact ⟨g', cur', e, hB, hg'.other e2 u, hs, fun j hj => by obtain ⟨v, h1, h2⟩ := hc j hj; exact ⟨v, h1, h2.any u⟩⟩
theorem Zv.grown (h : Zv B N w eL nn eS mm V) (l : Below w.heap.size w w') : Zv B N w' eL nn eS mm V :=
  ⟨fun hn => by obtain ⟨g, e, hB, hr⟩ := h.lev hn; exact ⟨g, e, hB, hr.grown l⟩,
    fun hm => by obtain ⟨g, cur, e, hg, hc⟩ := h.sch hm; exact ⟨g, cur, e, hg.kept (Kept.of_below l (fun _ => False)) id, hc⟩,
    fun k hk => by obtain ⟨a, n, c, e, h1, h2⟩ := h.rls k hk; exact ⟨a, n, c, e, h1, h2.grown l⟩, h.len⟩
theorem Zv.any {g t i : Nat} {cur : Array Value} (h : Zv B N w eL nn eS mm V) (hg : Blk w g t cur) (h34 : t ≠ 49) (u : Value) (hu : t = 51 → LsZ B N w u) : Zv B N (w.setCell ⟨g, i, none⟩ u) eL nn eS mm V :=
  ⟨fun hn => by obtain ⟨g', e, hB, hr⟩ := h.lev hn; exact ⟨g', e, hB, hr.any u⟩,
    fun hm => by obtain ⟨g', cur', e, hg', hc⟩ := h.sch hm; exact ⟨g', cur', e, hg'.other (fun e2 => hg.ne hg' h34 e2.symm) u, hc⟩,
    fun k hk => by obtain ⟨a, n, c, e, h1, h2⟩ := h.rls k hk; exact ⟨a, n, c, e, h1, h2.any hg u hu⟩, h.len⟩
end
/-- In the course of it: behind the world w0, with the box at ga. -/
structure Zs (B N : Nat) (w0 wr : World) (ga : Nat) (d6 : Array Value) (eL : Option Addr) (nn : Nat) (eS : Option Addr) (mm : Nat) (V : List Value) : Prop where
  kep : Kept (fun k => B ≤ k ∧ k < N) w0 wr
  box : Blk wr ga 30 d6
  z : Zv B N wr eL nn eS mm V
section
variable {B N : Nat} {w0 wr w' : World} {ga : Nat} {d6 : Array Value} {eL eS : Option Addr} {nn mm : Nat} {V : List Value}
theorem Zs.grown (h : Zs B N w0 wr ga d6 eL nn eS mm V) (l : Below wr.heap.size wr w') : Zs B N w0 w' ga d6 eL nn eS mm V :=
  ⟨h.kep.trans (Kept.of_below l _), h.box.kept (Kept.of_below l (fun _ => False)) id, h.z.grown l⟩
theorem Zs.any {g t i : Nat} {cur : Array Value} (h : Zs B N w0 wr ga d6 eL nn eS mm V) (hg : Blk wr g t cur) (hB : B ≤ g ∧ g < N) (h34 : t ≠ 49) (h25 : t ≠ 30) (u : Value) (hu : t = 51 → LsZ B N wr u) : Zs B N w0 (wr.setCell ⟨g, i, none⟩ u) ga d6 eL nn eS mm V :=
  ⟨h.kep.trans ((Kept.refl _ wr).setCell ⟨g, i, none⟩ u (.inl hB)), h.box.other (fun e => hg.ne h.box h25 e.symm) u, h.z.any hg h34 u hu⟩
theorem Zs.text {g i k : Nat} (h : Zs B N w0 wr ga d6 eL nn eS mm V) (hr : Rm wr g 9 k) (hB : B ≤ g ∧ g < N) (u : Value) : Zs B N w0 (wr.setCell ⟨g, i, none⟩ u) ga d6 eL nn eS mm V := by
  obtain ⟨cur, hg, -⟩ := hr
  exact h.any hg hB (by decide) (by decide) u (fun e => by cases e)
theorem Zs.lev {g i : Nat} (h : Zs B N w0 wr ga d6 (some ⟨g, 0, none⟩) nn eS mm V) (hn : 0 < nn) (u : Value) : Zs B N w0 (wr.setCell ⟨g, i, none⟩ u) ga d6 (some ⟨g, 0, none⟩) nn eS mm V := by
  obtain ⟨g', e, hB, cur, hg, -⟩ := h.z.lev hn
  injection e with e
  injection e with e
  subst e
  exact h.any hg hB (by decide) (by decide) u (fun e => by cases e)
theorem Zs.rule {g i : Nat} {cur : Array Value} (h : Zs B N w0 wr ga d6 eL nn eS mm V) (hg : Blk wr g 51 cur) (hB : B ≤ g ∧ g < N) : Zs B N w0 (wr.setCell ⟨g, i, none⟩ (.slice none 0 0)) ga d6 eL nn eS mm V :=
  h.any hg hB (by decide) (by decide) _ (fun _ => LsZ.nil0 _ _ _)
/-- Five cells of a rule. -/
theorem Zs.wipe {g i : Nat} {cur : Array Value} (h : Zs B N w0 wr ga d6 eL nn eS mm V) (hg : Blk wr g 51 cur) (hB : B ≤ g ∧ g < N) :
    Zs B N w0 (((((wr.setCell ⟨g, i, none⟩ (.slice none 0 0)).setCell ⟨g, i + 1, none⟩ (.slice none 0 0)).setCell ⟨g, i + 2, none⟩ (.slice none 0 0)).setCell ⟨g, i + 3, none⟩ (.slice none 0 0)).setCell ⟨g, i + 4, none⟩ (.slice none 0 0)) ga d6 eL nn eS mm V :=
  ((((h.rule hg hB).rule (hg.set _ _) hB).rule ((hg.set _ _).set _ _) hB).rule (((hg.set _ _).set _ _).set _ _) hB).rule ((((hg.set _ _).set _ _).set _ _).set _ _) hB
end
end Go.Proofs.YtaodckojinbdfaaDoor.Cp
