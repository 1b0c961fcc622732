/-
  Books, entries and scripts that came in: how they lie in memory. No condition.
-/
import Derived.Test.YtomkmgebbiahcaaBm
import Derived.Deep.SlicePairs
import Derived.OpenShut
import Derived.ShutString
namespace Go.Proofs.Ytomkmgebbiahcaa
open Go.ChangeShapes Go.WideShapes Go.ChangeAt Go.RowKit

/-- A step of a script. -/
structure Oq where
  bg : Bool
  id : Int
  ph : Int
def opA (o : Oq) : Array Value := #[.bool o.bg, .int .i64 o.id, .int .i64 o.ph]
/-- A script that is read. -/
def OpR (W : World) (a : Option Addr) (n : Nat) (o : Nat → Oq) : Prop := 0 < n → ∃ b off, a = some ⟨b, off, none⟩ ∧ b < W.heap.size ∧ ∀ k, k < n →
  W.cell? ⟨b, off + k * 3, none⟩ = some (.bool (o k).bg) ∧ W.cell? ⟨b, off + k * 3 + 1, none⟩ = some (.int .i64 (o k).id) ∧ W.cell? ⟨b, off + k * 3 + 2, none⟩ = some (.int .i64 (o k).ph)
theorem OpR.carry {w w' : World} {a : Option Addr} {n : Nat} {o : Nat → Oq} (h : OpR w a n o) (b : Below w.heap.size w w') : OpR w' a n o := fun hn => by
  obtain ⟨g, off, rfl, hg, hc⟩ := h hn
  refine ⟨g, off, rfl, Nat.lt_of_lt_of_le hg b.size, fun k hk => ?_⟩
  obtain ⟨h0, h1, h2⟩ := hc k hk
  exact ⟨(b.cell (p := ⟨g, off + k * 3, none⟩) hg).trans h0, (b.cell (p := ⟨g, off + k * 3 + 1, none⟩) hg).trans h1, (b.cell (p := ⟨g, off + k * 3 + 2, none⟩) hg).trans h2⟩
theorem cl3 : Try.prog.cellsOf 3 = 1 := by kernel_rfl
theorem cl4 : Try.prog.cellsOf 4 = 1 := by kernel_rfl
theorem cl9 : Try.prog.cellsOf 9 = 1 := by kernel_rfl
theorem cl22 : Try.prog.cellsOf 22 = 1 := by kernel_rfl
theorem cl24 : Try.prog.cellsOf 24 = 3 := by kernel_rfl
theorem cl42 : Try.prog.cellsOf 42 = 3 := by kernel_rfl
theorem len3 {α : Type} {l : List α} (h : l.length = 3) : ∃ a b c, l = [a, b, c] := by
  match l, h with
  | [a, b, c], _ => exact ⟨a, b, c, rfl⟩
section
variable {H : Type} {enc : TypeId × Value → H} {W : World} {base : Nat} {sp : Nat → Bool} {held : Bool} {fuel : Nat} {x : DataW H × List MemPlace}
theorem open_en1 {cs : List Value} (h : DataW.trod enc Try.prog W base sp held fuel 24 cs = some x) : ∃ t : En, cs = enC t := by
  obtain ⟨xs, k, hk, hxy, hcl, hxl, hf⟩ := DataW.trod_struct Try.underlying24 h
  rw [cl24] at hcl
  obtain ⟨v0, v1, v2, rfl⟩ := len3 hcl
  obtain ⟨y0, y1, y2, rfl⟩ := len3 (show xs.length = 3 from hxl)
  have g0 := hf 0 _ rfl
  have g1 := hf 1 _ rfl
  have g2 := hf 2 _ rfl
  simp [cl3, cl9] at g0 g1 g2
  obtain ⟨n0, h0, _, _⟩ := DataW.trod_int Try.underlying3 g0
  obtain ⟨n1, h1, _, _⟩ := DataW.trod_int Try.underlying3 g1
  obtain ⟨n2, h2, _, _⟩ := DataW.trod_string Try.underlying9 g2
  simp at h0 h1 h2
  subst h0 h1 h2
  exact ⟨⟨n0, n1, n2⟩, rfl⟩
theorem open_op1 {cs : List Value} (h : DataW.trod enc Try.prog W base sp held fuel 42 cs = some x) : ∃ o : Oq, cs = (opA o).toList := by
  obtain ⟨xs, k, hk, hxy, hcl, hxl, hf⟩ := DataW.trod_struct Try.underlying42 h
  rw [cl42] at hcl
  obtain ⟨v0, v1, v2, rfl⟩ := len3 hcl
  obtain ⟨y0, y1, y2, rfl⟩ := len3 (show xs.length = 3 from hxl)
  have g0 := hf 0 _ rfl
  have g1 := hf 1 _ rfl
  have g2 := hf 2 _ rfl
  simp [cl3, cl4] at g0 g1 g2
  obtain ⟨n0, h0, _⟩ := DataW.trod_bool Try.underlying4 g0
  obtain ⟨n1, h1, _, _⟩ := DataW.trod_int Try.underlying3 g1
  obtain ⟨n2, h2, _, _⟩ := DataW.trod_int Try.underlying3 g2
  simp at h0 h1 h2
  subst h0 h1 h2
  exact ⟨⟨n0, n1, n2⟩, rfl⟩
/-- The k-th of a list that is written out. -/
theorem ge_map (f : Nat → En) : ∀ (n k : Nat), k < n → ge ((List.range n).map f) k = f k := fun n k h => by
  unfold ge
  rw [List.getD_eq_getElem?_getD, List.getElem?_map, List.getElem?_range h]
  rfl
theorem open_ents {v : Value} (h : DataW.trod enc Try.prog W base sp held fuel 22 [v] = some x) :
    ∃ L a c, v = .slice a L.length c ∧ SlE W a c L := by
  rcases Go.Deep.open_slice Try.underlying22 h with ⟨hcs, _⟩ | ⟨a, l, c, m, n, D, Pl, hcs, _, hl, hm, hmm, hx, hc⟩
  · obtain rfl : v = .slice none 0 0 := by simpa using hcs
    exact ⟨[], none, 0, rfl, Nat.le_refl _, fun _ => rfl, EnR.nil _ _⟩
  · obtain rfl : v = .slice (some a) l c := by simpa using hcs
    have hlm : l ≤ m := by rw [hmm]; split <;> omega
    have each : ∀ k, k < l → ∃ r : En, ∀ j, j < 3 → W.cell? (a.add (k * 3 + j)) = (enC r)[j]? := by
      intro k hk
      obtain ⟨cs', h1, h2⟩ := hc k (by omega)
      rw [cl24] at h1
      obtain ⟨_, hlen, hcell⟩ := World.cells?_some h1
      obtain ⟨r, rfl⟩ := open_en1 h2
      exact ⟨r, fun j hj => by have := hcell j hj; rw [Go.Deep.add_add] at this; exact this⟩
    have : Inhabited En := ⟨enZ⟩
    obtain ⟨q, hq⟩ := Go.Deep.choose_lt each
    have hlen : ((List.range l).map q).length = l := by simp
    refine ⟨(List.range l).map q, some a, c, by rw [hlen], by rw [hlen]; exact hl, (fun h => by cases h), fun hn => ?_⟩
    have hn0 : 0 < l := by
      rcases Nat.eq_zero_or_pos l with e | e
      · rw [e] at hn; exact absurd rfl hn
      · exact e
    obtain ⟨b, off, spot⟩ := a
    have hu0 : W.cell? (Addr.add ⟨b, off, spot⟩ (0 * 3 + 0)) = some (.int .i64 (q 0).id) := hq 0 hn0 0 (by decide)
    have hspot : spot = none := by simpa [Addr.add] using World.cell?_spot hu0
    subst hspot
    rw [Go.WideShapes.add_plain] at hu0
    refine ⟨b, off, rfl, World.block_lt_of_cell? _ _ hu0, fun j u hj => ?_⟩
    have hjl : j < l * 3 := by
      rcases Nat.lt_or_ge j (l * 3) with e | e
      · exact e
      · rw [List.getElem?_eq_none (by rw [enCs_len, hlen]; exact e)] at hj; cases hj
    have e1 : j / 3 * 3 + j % 3 = j := by omega
    have y := hq (j / 3) (by omega) (j % 3) (by omega)
    have z := enCs_at ((List.range l).map q) (j / 3) (by rw [hlen]; omega) (j % 3) (by omega)
    rw [ge_map q l (j / 3) (by omega), e1, hj] at z
    rw [Go.WideShapes.add_plain, e1, ← z] at y
    exact y
theorem open_ops {v : Value} (h : DataW.trod enc Try.prog W base sp held fuel 40 [v] = some x) :
    ∃ o a n c, v = .slice a n c ∧ OpR W a n o := by
  rcases Go.Deep.open_slice Try.underlying40 h with ⟨hcs, _⟩ | ⟨a, l, c, m, n, D, Pl, hcs, _, hl, hm, hmm, hx, hc⟩
  · obtain rfl : v = .slice none 0 0 := by simpa using hcs
    exact ⟨fun _ => ⟨false, 0, 0⟩, none, 0, 0, rfl, fun h => absurd h (Nat.lt_irrefl 0)⟩
  · obtain rfl : v = .slice (some a) l c := by simpa using hcs
    have hlm : l ≤ m := by rw [hmm]; split <;> omega
    have each : ∀ k, k < l → ∃ r : Oq, ∀ j, j < 3 → W.cell? (a.add (k * 3 + j)) = (opA r).toList[j]? := by
      intro k hk
      obtain ⟨cs', h1, h2⟩ := hc k (by omega)
      rw [cl42] at h1
      obtain ⟨_, hlen, hcell⟩ := World.cells?_some h1
      obtain ⟨r, rfl⟩ := open_op1 h2
      exact ⟨r, fun j hj => by have := hcell j hj; rw [Go.Deep.add_add] at this; exact this⟩
    have : Inhabited Oq := ⟨⟨false, 0, 0⟩⟩
    obtain ⟨q, hq⟩ := Go.Deep.choose_lt each
    refine ⟨q, some a, l, c, rfl, fun hn => ?_⟩
    obtain ⟨b, off, spot⟩ := a
    have hu0 : W.cell? (Addr.add ⟨b, off, spot⟩ (0 * 3 + 0)) = some (.bool (q 0).bg) := (hq 0 hn) 0 (by decide)
    have hspot : spot = none := by simpa [Addr.add] using World.cell?_spot hu0
    subst hspot
    rw [Go.WideShapes.add_plain] at hu0
    refine ⟨b, off, rfl, World.block_lt_of_cell? _ _ hu0, fun k hk => ?_⟩
    have y := hq k hk
    simp only [Go.WideShapes.add_plain, ← Nat.add_assoc] at y
    exact ⟨y 0 (by decide), y 1 (by decide), y 2 (by decide)⟩
theorem open_entry {cs : Array Value} (h : DataW.trod enc Try.prog W base sp held fuel 24 cs.toList = some x) : ∃ t : En, cs = enA t := by
  obtain ⟨t, e⟩ := open_en1 h
  obtain ⟨cs⟩ := cs
  simp only at e
  subst e
  exact ⟨t, rfl⟩
end
end Go.Proofs.Ytomkmgebbiahcaa
