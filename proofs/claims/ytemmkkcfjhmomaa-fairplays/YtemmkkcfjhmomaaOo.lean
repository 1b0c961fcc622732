/-
  Scripts and turns that came in: how they lie in memory. No condition.
-/
import Derived.Test.YtemmkkcfjhmomaaRowV
namespace Go.Proofs.Ytemmkkcfjhmomaa
open Go.ChangeShapes Go.WideShapes Go.ChangeAt Go.RowKit

/-- One row of a script. -/
structure Sc where
  dd : Int
  ha : Option Addr
  hn : Nat
  hc : Nat
  hf : Nat → Int
  t : Tk
  op : Int
def scC (x : Sc) : List Value := [.int .i64 x.dd, .slice x.ha x.hn x.hc, .int .i64 x.t.id, .int .i64 x.t.wid, .int .i64 x.t.sts, .int .i64 x.t.sin, .int .i64 x.t.unt, .int .i64 x.op]
/-- What is right of a row. -/
def ScOk (w : World) (x : Sc) : Prop := HnR w x.ha x.hn x.hf ∧ x.hn ≤ 9223372036854775807 ∧ x.hn ≤ x.hc ∧ (x.ha = none → x.hc = 0)
/-- A script is read. -/
def ScR (w : World) (a : Option Addr) (n : Nat) (H : Nat → Sc) : Prop := 0 < n → ∃ b off, a = some ⟨b, off, none⟩ ∧ b < w.heap.size ∧ ∀ k, k < n → (∀ j, j < 8 → w.cell? ⟨b, off + (k * 8 + j), none⟩ = (scC (H k))[j]?) ∧ ScOk w (H k)
theorem ScOk.carry {w w' : World} {x : Sc} (h : ScOk w x) (b : Below w.heap.size w w') : ScOk w' x := ⟨h.1.carry b, h.2⟩
theorem ScR.carry {w w' : World} {a : Option Addr} {n : Nat} {H : Nat → Sc} (h : ScR w a n H) (b : Below w.heap.size w w') : ScR w' a n H := fun hn => by
  obtain ⟨q, off, rfl, hg, hc⟩ := h hn
  exact ⟨q, off, rfl, Nat.lt_of_lt_of_le hg b.size, fun k hk => ⟨fun j hj => (b.cell (p := ⟨q, off + (k * 8 + j), none⟩) hg).trans ((hc k hk).1 j hj), (hc k hk).2.carry b⟩⟩
/-- One turn. -/
structure Tn where
  tk : Bool
  ln : Int
  wi : Int
def tnC (x : Tn) : List Value := [.bool x.tk, .int .i64 x.ln, .int .i64 x.wi]
/-- Turns are read. -/
def TnR (w : World) (a : Option Addr) (n : Nat) (H : Nat → Tn) : Prop := 0 < n → ∃ b off, a = some ⟨b, off, none⟩ ∧ b < w.heap.size ∧ ∀ k, k < n → ∀ j, j < 3 → w.cell? ⟨b, off + (k * 3 + j), none⟩ = (tnC (H k))[j]?
theorem TnR.carry {w w' : World} {a : Option Addr} {n : Nat} {H : Nat → Tn} (h : TnR w a n H) (b : Below w.heap.size w w') : TnR w' a n H := fun hn => by
  obtain ⟨q, off, rfl, hg, hc⟩ := h hn
  exact ⟨q, off, rfl, Nat.lt_of_lt_of_le hg b.size, fun k hk j hj => (b.cell (p := ⟨q, off + (k * 3 + j), none⟩) hg).trans (hc k hk j hj)⟩
theorem cl54 : Try.prog.cellsOf 54 = 8 := by kernel_rfl
theorem cl68 : Try.prog.cellsOf 68 = 3 := by kernel_rfl
theorem cl4 : Try.prog.cellsOf 4 = 1 := by kernel_rfl
theorem len3 {α : Type} {l : List α} (h : l.length = 3) : ∃ a b c, l = [a, b, c] := by
  match l, h with
  | [a, b, c], _ => exact ⟨a, b, c, rfl⟩
section
variable {H : Type} {enc : TypeId × Value → H} {W : World} {base : Nat} {sp : Nat → Bool} {held : Bool} {fuel : Nat} {x : DataW H × List MemPlace}
theorem open_op1 {cs : List Value} (h : DataW.trod enc Try.prog W base sp held fuel 54 cs = some x) : ∃ o : Sc, cs = scC o ∧ ScOk W o := by
  obtain ⟨xs, k, hk, hxy, hcl, hxl, hf⟩ := DataW.trod_struct Try.underlying54 h
  rw [cl54] at hcl
  obtain ⟨v0, v1, v2, v3, v4, v5, v6, v7, rfl⟩ := len8 hcl
  obtain ⟨y0, y1, y2, y3, rfl⟩ := len4 (show xs.length = 4 from hxl)
  have g0 := hf 0 _ rfl
  have g1 := hf 1 _ rfl
  have g2 := hf 2 _ rfl
  have g3 := hf 3 _ rfl
  simp [cl3, cl26, cl28] at g0 g1 g2 g3
  obtain ⟨n0, h0, _, _⟩ := DataW.trod_int Try.underlying3 g0
  obtain ⟨Hn, a, n, c, h1, hr⟩ := open_hand g1
  obtain ⟨t, h2⟩ := open_tk1 g2
  obtain ⟨n3, h3, _, _⟩ := DataW.trod_int Try.underlying3 g3
  simp [tkC] at h0 h1 h2 h3
  obtain ⟨rfl, rfl, rfl, rfl, rfl⟩ := h2
  subst h0 h1 h3
  exact ⟨⟨n0, a, n, c, Hn, t, n3⟩, rfl, hr⟩
theorem open_ops {v : Value} (h : DataW.trod enc Try.prog W base sp held fuel 52 [v] = some x) :
    ∃ o a n c, v = .slice a n c ∧ ScR W a n o ∧ n ≤ 9223372036854775807 := by
  rcases Go.Deep.open_slice Try.underlying52 h with ⟨hcs, _⟩ | ⟨a, l, c, m, n, D, Pl, hcs, _, hl, hm, hmm, hx, hc⟩
  · obtain rfl : v = .slice none 0 0 := by simpa using hcs
    exact ⟨fun _ => ⟨0, none, 0, 0, fun _ => 0, tkZ, 0⟩, none, 0, 0, rfl, (fun h => absurd h (Nat.lt_irrefl 0)), by decide⟩
  · obtain rfl : v = .slice (some a) l c := by simpa using hcs
    have hlm : l ≤ m := by rw [hmm]; split <;> omega
    have each : ∀ k, k < l → ∃ r : Sc, (∀ j, j < 8 → W.cell? (a.add (k * 8 + j)) = (scC r)[j]?) ∧ ScOk W r := by
      intro k hk
      obtain ⟨cs', h1, h2⟩ := hc k (by omega)
      rw [cl54] at h1
      obtain ⟨_, hlen, hcell⟩ := World.cells?_some h1
      obtain ⟨r, rfl, hw⟩ := open_op1 h2
      exact ⟨r, fun j hj => by have := hcell j hj; rw [Go.Deep.add_add] at this; exact this, hw⟩
    have : Inhabited Sc := ⟨⟨0, none, 0, 0, fun _ => 0, tkZ, 0⟩⟩
    obtain ⟨q, hq⟩ := Go.Deep.choose_lt each
    refine ⟨q, some a, l, c, rfl, fun hn => ?_, by unfold maxLen at hm; omega⟩
    obtain ⟨b, off, spot⟩ := a
    have hu0 : W.cell? (Addr.add ⟨b, off, spot⟩ (0 * 8 + 0)) = some (.int .i64 (q 0).dd) := (hq 0 hn).1 0 (by decide)
    have hspot : spot = none := by simpa [Addr.add] using World.cell?_spot hu0
    subst hspot
    rw [Go.WideShapes.add_plain] at hu0
    refine ⟨b, off, rfl, World.block_lt_of_cell? _ _ hu0, fun k hk => ⟨fun j hj => ?_, (hq k hk).2⟩⟩
    have y := (hq k hk).1 j hj
    rw [Go.WideShapes.add_plain] at y
    exact y
theorem open_turn1 {cs : List Value} (h : DataW.trod enc Try.prog W base sp held fuel 68 cs = some x) : ∃ o : Tn, cs = tnC o := by
  obtain ⟨xs, k, hk, hxy, hcl, hxl, hf⟩ := DataW.trod_struct Try.underlying68 h
  rw [cl68] at hcl
  obtain ⟨v0, v1, v2, rfl⟩ := len3 hcl
  obtain ⟨y0, y1, y2, rfl⟩ := len3 (show xs.length = 3 from hxl)
  have g0 := hf 0 _ rfl
  have g1 := hf 1 _ rfl
  have g2 := hf 2 _ rfl
  simp [cl3, cl4] at g0 g1 g2
  obtain ⟨n0, h0, _⟩ := DataW.trod_bool Try.underlying4 g0
  obtain ⟨n1, h1, _, _⟩ := DataW.trod_int Try.underlying3 g1
  obtain ⟨n2, h2, _, _⟩ := DataW.trod_int Try.underlying3 g2
  simp at h0 h1 h2
  subst h0 h1 h2
  exact ⟨⟨n0, n1, n2⟩, rfl⟩
theorem open_turns {v : Value} (h : DataW.trod enc Try.prog W base sp held fuel 57 [v] = some x) :
    ∃ o a n c, v = .slice a n c ∧ TnR W a n o ∧ n ≤ 9223372036854775807 := by
  rcases Go.Deep.open_slice Try.underlying57 h with ⟨hcs, _⟩ | ⟨a, l, c, m, n, D, Pl, hcs, _, hl, hm, hmm, hx, hc⟩
  · obtain rfl : v = .slice none 0 0 := by simpa using hcs
    exact ⟨fun _ => ⟨false, 0, 0⟩, none, 0, 0, rfl, (fun h => absurd h (Nat.lt_irrefl 0)), by decide⟩
  · obtain rfl : v = .slice (some a) l c := by simpa using hcs
    have hlm : l ≤ m := by rw [hmm]; split <;> omega
    have each : ∀ k, k < l → ∃ r : Tn, ∀ j, j < 3 → W.cell? (a.add (k * 3 + j)) = (tnC r)[j]? := by
      intro k hk
      obtain ⟨cs', h1, h2⟩ := hc k (by omega)
      rw [cl68] at h1
      obtain ⟨_, hlen, hcell⟩ := World.cells?_some h1
      obtain ⟨r, rfl⟩ := open_turn1 h2
      exact ⟨r, fun j hj => by have := hcell j hj; rw [Go.Deep.add_add] at this; exact this⟩
    have : Inhabited Tn := ⟨⟨false, 0, 0⟩⟩
    obtain ⟨q, hq⟩ := Go.Deep.choose_lt each
    refine ⟨q, some a, l, c, rfl, fun hn => ?_, by unfold maxLen at hm; omega⟩
    obtain ⟨b, off, spot⟩ := a
    have hu0 : W.cell? (Addr.add ⟨b, off, spot⟩ (0 * 3 + 0)) = some (.bool (q 0).tk) := hq 0 hn 0 (by decide)
    have hspot : spot = none := by simpa [Addr.add] using World.cell?_spot hu0
    subst hspot
    rw [Go.WideShapes.add_plain] at hu0
    refine ⟨b, off, rfl, World.block_lt_of_cell? _ _ hu0, fun k hk j hj => ?_⟩
    have y := hq k hk j hj
    rw [Go.WideShapes.add_plain] at y
    exact y
end
end Go.Proofs.Ytemmkkcfjhmomaa
