/-
  Lanes, tickets, lists of tickets and scripts that came in: how they lie in memory. No condition.
-/
import Derived.Test.YtbnjjckcnlfapaaPl
import Derived.Deep.SlicePairs
import Derived.OpenShut
namespace Go.Proofs.Ytbnjjckcnlfapaa
open Go.ChangeShapes Go.WideShapes Go.ChangeAt Go.RowKit

theorem word_of {x : Int} (h : (Lit.int .u64 x).wf = true) : Word x := by
  simp [Lit.wf, IntKind.min, IntKind.max, IntKind.bits, IntKind.signed] at h
  exact ⟨by omega, by omega⟩
theorem cl3 : Try.prog.cellsOf 3 = 1 := by kernel_rfl
theorem cl22 : Try.prog.cellsOf 22 = 1 := by kernel_rfl
theorem cl23 : Try.prog.cellsOf 23 = 1 := by kernel_rfl
theorem cl25 : Try.prog.cellsOf 25 = 2 := by kernel_rfl
theorem cl27 : Try.prog.cellsOf 27 = 5 := by kernel_rfl
theorem cl42 : Try.prog.cellsOf 42 = 8 := by kernel_rfl
theorem len2 {α : Type} {l : List α} (h : l.length = 2) : ∃ a b, l = [a, b] := by
  match l, h with
  | [a, b], _ => exact ⟨a, b, rfl⟩
theorem len4 {α : Type} {l : List α} (h : l.length = 4) : ∃ a b c d, l = [a, b, c, d] := by
  match l, h with
  | [a, b, c, d], _ => exact ⟨a, b, c, d, rfl⟩
theorem len5 {α : Type} {l : List α} (h : l.length = 5) : ∃ a b c d e, l = [a, b, c, d, e] := by
  match l, h with
  | [a, b, c, d, e], _ => exact ⟨a, b, c, d, e, rfl⟩
theorem len8 {α : Type} {l : List α} (h : l.length = 8) : ∃ a b c d e f g i, l = [a, b, c, d, e, f, g, i] := by
  match l, h with
  | [a, b, c, d, e, f, g, i], _ => exact ⟨a, b, c, d, e, f, g, i, rfl⟩
section
variable {H : Type} {enc : TypeId × Value → H} {W : World} {base : Nat} {sp : Nat → Bool} {held : Bool} {fuel : Nat} {x : DataW H × List MemPlace}
theorem open_tk1 {cs : List Value} (h : DataW.trod enc Try.prog W base sp held fuel 27 cs = some x) : ∃ t : Tk, cs = tkC t := by
  obtain ⟨xs, k, hk, hxy, hcl, hxl, hf⟩ := DataW.trod_struct Try.underlying27 h
  rw [cl27] at hcl
  obtain ⟨v0, v1, v2, v3, v4, rfl⟩ := len5 hcl
  obtain ⟨y0, y1, y2, y3, y4, rfl⟩ := len5 (show xs.length = 5 from hxl)
  have g0 := hf 0 _ rfl
  have g1 := hf 1 _ rfl
  have g2 := hf 2 _ rfl
  have g3 := hf 3 _ rfl
  have g4 := hf 4 _ rfl
  simp [cl3] at g0 g1 g2 g3 g4
  obtain ⟨n0, h0, _, _⟩ := DataW.trod_int Try.underlying3 g0
  obtain ⟨n1, h1, _, _⟩ := DataW.trod_int Try.underlying3 g1
  obtain ⟨n2, h2, _, _⟩ := DataW.trod_int Try.underlying3 g2
  obtain ⟨n3, h3, _, _⟩ := DataW.trod_int Try.underlying3 g3
  obtain ⟨n4, h4, _, _⟩ := DataW.trod_int Try.underlying3 g4
  simp at h0 h1 h2 h3 h4
  subst h0 h1 h2 h3 h4
  exact ⟨⟨n0, n1, n2, n3, n4⟩, rfl⟩
theorem open_op1 {cs : List Value} (h : DataW.trod enc Try.prog W base sp held fuel 42 cs = some x) : ∃ o : Oq, cs = (opA o).toList ∧ Word o.rr := by
  obtain ⟨xs, k, hk, hxy, hcl, hxl, hf⟩ := DataW.trod_struct Try.underlying42 h
  rw [cl42] at hcl
  obtain ⟨v0, v1, v2, v3, v4, v5, v6, v7, rfl⟩ := len8 hcl
  obtain ⟨y0, y1, y2, y3, rfl⟩ := len4 (show xs.length = 4 from hxl)
  have g0 := hf 0 _ rfl
  have g1 := hf 1 _ rfl
  have g2 := hf 2 _ rfl
  have g3 := hf 3 _ rfl
  simp [cl3, cl22, cl27] at g0 g1 g2 g3
  obtain ⟨n0, h0, _, _⟩ := DataW.trod_int Try.underlying3 g0
  obtain ⟨n1, h1, _, w1⟩ := DataW.trod_int Try.underlying22 g1
  obtain ⟨t, h2⟩ := open_tk1 g2
  obtain ⟨n3, h3, _, _⟩ := DataW.trod_int Try.underlying3 g3
  simp [tkC] at h0 h1 h2 h3
  obtain ⟨rfl, rfl, rfl, rfl, rfl⟩ := h2
  subst h0 h1 h3
  exact ⟨⟨n0, n1, t, n3⟩, rfl, word_of w1⟩
/-- The k-th of a list that is written out. -/
theorem gt_map (f : Nat → Tk) : ∀ (n k : Nat), k < n → gt ((List.range n).map f) k = f k := fun n k h => by
  unfold gt
  rw [List.getD_eq_getElem?_getD, List.getElem?_map, List.getElem?_range h]
  rfl
theorem open_tickets {v : Value} (h : DataW.trod enc Try.prog W base sp held fuel 23 [v] = some x) :
    ∃ L a c, v = .slice a L.length c ∧ SlR W a c L := by
  rcases Go.Deep.open_slice Try.underlying23 h with ⟨hcs, _⟩ | ⟨a, l, c, m, n, D, Pl, hcs, _, hl, hm, hmm, hx, hc⟩
  · obtain rfl : v = .slice none 0 0 := by simpa using hcs
    exact ⟨[], none, 0, rfl, Nat.le_refl _, fun _ => rfl, TkR.nil _ _⟩
  · obtain rfl : v = .slice (some a) l c := by simpa using hcs
    have hlm : l ≤ m := by rw [hmm]; split <;> omega
    have each : ∀ k, k < l → ∃ r : Tk, ∀ j, j < 5 → W.cell? (a.add (k * 5 + j)) = (tkC r)[j]? := by
      intro k hk
      obtain ⟨cs', h1, h2⟩ := hc k (by omega)
      rw [cl27] at h1
      obtain ⟨_, hlen, hcell⟩ := World.cells?_some h1
      obtain ⟨r, rfl⟩ := open_tk1 h2
      exact ⟨r, fun j hj => by have := hcell j hj; rw [Go.Deep.add_add] at this; exact this⟩
    have : Inhabited Tk := ⟨tkZ⟩
    obtain ⟨q, hq⟩ := Go.Deep.choose_lt each
    have hlen : ((List.range l).map q).length = l := by simp
    refine ⟨(List.range l).map q, some a, c, by rw [hlen], by rw [hlen]; exact hl, (fun h => by cases h), fun hn => ?_⟩
    have hn0 : 0 < l := by
      rcases Nat.eq_zero_or_pos l with e | e
      · rw [e] at hn; exact absurd rfl hn
      · exact e
    obtain ⟨b, off, spot⟩ := a
    have hu0 : W.cell? (Addr.add ⟨b, off, spot⟩ (0 * 5 + 0)) = some (.int .i64 (q 0).id) := hq 0 hn0 0 (by decide)
    have hspot : spot = none := by simpa [Addr.add] using World.cell?_spot hu0
    subst hspot
    rw [Go.WideShapes.add_plain] at hu0
    refine ⟨b, off, rfl, World.block_lt_of_cell? _ _ hu0, fun j u hj => ?_⟩
    have hjl : j < l * 5 := by
      rcases Nat.lt_or_ge j (l * 5) with e | e
      · exact e
      · rw [List.getElem?_eq_none (by rw [tkCs_len, hlen]; exact e)] at hj; cases hj
    have e1 : j / 5 * 5 + j % 5 = j := by omega
    have y := hq (j / 5) (by omega) (j % 5) (by omega)
    have z := tkCs_at ((List.range l).map q) (j / 5) (by rw [hlen]; omega) (j % 5) (by omega)
    rw [gt_map q l (j / 5) (by omega), e1, hj] at z
    rw [Go.WideShapes.add_plain, e1, ← z] at y
    exact y
theorem open_ops {v : Value} (h : DataW.trod enc Try.prog W base sp held fuel 40 [v] = some x) :
    ∃ o a n c, v = .slice a n c ∧ OpR W a n o := by
  rcases Go.Deep.open_slice Try.underlying40 h with ⟨hcs, _⟩ | ⟨a, l, c, m, n, D, Pl, hcs, _, hl, hm, hmm, hx, hc⟩
  · obtain rfl : v = .slice none 0 0 := by simpa using hcs
    exact ⟨fun _ => ⟨0, 0, tkZ, 0⟩, none, 0, 0, rfl, fun h => absurd h (Nat.lt_irrefl 0)⟩
  · obtain rfl : v = .slice (some a) l c := by simpa using hcs
    have hlm : l ≤ m := by rw [hmm]; split <;> omega
    have each : ∀ k, k < l → ∃ r : Oq, (∀ j, j < 8 → W.cell? (a.add (k * 8 + j)) = (opA r).toList[j]?) ∧ Word r.rr := by
      intro k hk
      obtain ⟨cs', h1, h2⟩ := hc k (by omega)
      rw [cl42] at h1
      obtain ⟨_, hlen, hcell⟩ := World.cells?_some h1
      obtain ⟨r, rfl, hw⟩ := open_op1 h2
      exact ⟨r, fun j hj => by have := hcell j hj; rw [Go.Deep.add_add] at this; exact this, hw⟩
    have : Inhabited Oq := ⟨⟨0, 0, tkZ, 0⟩⟩
    obtain ⟨q, hq⟩ := Go.Deep.choose_lt each
    refine ⟨q, some a, l, c, rfl, fun hn => ?_⟩
    obtain ⟨b, off, spot⟩ := a
    have hu0 : W.cell? (Addr.add ⟨b, off, spot⟩ (0 * 8 + 0)) = some (.int .i64 (q 0).dd) := (hq 0 hn).1 0 (by decide)
    have hspot : spot = none := by simpa [Addr.add] using World.cell?_spot hu0
    subst hspot
    rw [Go.WideShapes.add_plain] at hu0
    refine ⟨b, off, rfl, World.block_lt_of_cell? _ _ hu0, fun k hk => ⟨?_, (hq k hk).2⟩⟩
    have y := (hq k hk).1
    simp only [Go.WideShapes.add_plain, ← Nat.add_assoc] at y
    exact ⟨y 0 (by decide), y 1 (by decide), y 2 (by decide), y 3 (by decide), y 4 (by decide), y 5 (by decide), y 6 (by decide), y 7 (by decide)⟩
theorem open_ticket {cs : Array Value} (h : DataW.trod enc Try.prog W base sp held fuel 27 cs.toList = some x) : ∃ t : Tk, cs = tkA t := by
  obtain ⟨t, e⟩ := open_tk1 h
  obtain ⟨cs⟩ := cs
  simp only at e
  subst e
  exact ⟨t, rfl⟩
theorem open_lane {cs : Array Value} (h : DataW.trod enc Try.prog W base sp held fuel 25 cs.toList = some x) : ∃ s L a c, cs = #[.int .u64 s, .slice a L.length c] ∧ Word s ∧ SlR W a c L := by
  obtain ⟨xs, k, hk, hxy, hcl, hxl, hf⟩ := DataW.trod_struct Try.underlying25 h
  rw [cl25] at hcl
  obtain ⟨cs⟩ := cs
  simp only at h hf hcl ⊢
  obtain ⟨v0, v1, rfl⟩ := len2 hcl
  obtain ⟨y0, y1, rfl⟩ := len2 (show xs.length = 2 from hxl)
  have g0 := hf 0 _ rfl
  have g1 := hf 1 _ rfl
  simp [cl22, cl23] at g0 g1
  obtain ⟨s0, h0, _, w0⟩ := DataW.trod_int Try.underlying22 g0
  obtain ⟨L, a, c, e1, r⟩ := open_tickets g1
  simp at h0
  subst h0 e1
  exact ⟨s0, L, a, c, rfl, word_of w0, r⟩
end
end Go.Proofs.Ytbnjjckcnlfapaa
