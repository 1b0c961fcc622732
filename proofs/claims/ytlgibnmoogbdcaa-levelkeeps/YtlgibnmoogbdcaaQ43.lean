/-
  Levels and scripts that came in: how they lie in memory. No condition.
-/
import Derived.Test.YtlgibnmoogbdcaaQ38
import Derived.Test.YtlgibnmoogbdcaaQ42
import Derived.OpenShut
namespace Go.Proofs.Ytlgibnmoogbdcaa
open Go.ChangeShapes Go.WideShapes Go.ChangeAt Go.RowKit

/-- One row of a script. -/
structure Oq where
  o : Od
  ha : Option Addr
  hn : Nat
  hc : Nat
  hf : Nat → Int
def opL (x : Oq) : List Value := (opA x.o x.ha x.hn x.hc).toList
/-- What is right of a row. -/
def OqOk (w : World) (x : Oq) : Prop := HnR w x.ha x.hn x.hf ∧ x.hn ≤ 9223372036854775807 ∧ x.hn ≤ x.hc ∧ (x.ha = none → x.hc = 0)
/-- A script is read. -/
def OqR (w : World) (a : Option Addr) (n : Nat) (H : Nat → Oq) : Prop := 0 < n → ∃ b off, a = some ⟨b, off, none⟩ ∧ b < w.heap.size ∧ ∀ k, k < n → (∀ j, j < 19 → w.cell? ⟨b, off + (k * 19 + j), none⟩ = (opL (H k))[j]?) ∧ OqOk w (H k)
theorem OqOk.carry {w w' : World} {x : Oq} (h : OqOk w x) (b : Below w.heap.size w w') : OqOk w' x := ⟨h.1.carry b, h.2⟩
theorem OqR.carry {w w' : World} {a : Option Addr} {n : Nat} {H : Nat → Oq} (h : OqR w a n H) (b : Below w.heap.size w w') : OqR w' a n H := fun hn => by
  obtain ⟨q, off, rfl, hg, hc⟩ := h hn
  exact ⟨q, off, rfl, Nat.lt_of_lt_of_le hg b.size, fun k hk => ⟨fun j hj => (b.cell (p := ⟨q, off + (k * 19 + j), none⟩) hg).trans ((hc k hk).1 j hj), (hc k hk).2.carry b⟩⟩
theorem cl4 : Try.prog.cellsOf 4 = 1 := by kernel_rfl
theorem cl9 : Try.prog.cellsOf 9 = 1 := by kernel_rfl
theorem clv : Try.prog.cellsOf 23 = 10 := by kernel_rfl
theorem clo : Try.prog.cellsOf 45 = 19 := by kernel_rfl
theorem len_succ {α : Type} {n : Nat} : ∀ {l : List α}, l.length = n + 1 → ∃ a t, l = a :: t ∧ t.length = n
  | a :: t, h => ⟨a, t, rfl, by simpa using h⟩
theorem len6 {α : Type} {l : List α} (h : l.length = 6) : ∃ x0 x1 x2 x3 x4 x5, l = [x0, x1, x2, x3, x4, x5] := by
  obtain ⟨x0, t0, rfl, h0⟩ := len_succ h
  obtain ⟨x1, t1, rfl, h1⟩ := len_succ h0
  obtain ⟨x2, t2, rfl, h2⟩ := len_succ h1
  obtain ⟨x3, t3, rfl, h3⟩ := len_succ h2
  obtain ⟨x4, t4, rfl, h4⟩ := len_succ h3
  obtain ⟨x5, t5, rfl, h5⟩ := len_succ h4
  obtain rfl := List.length_eq_zero_iff.1 h5
  exact ⟨x0, x1, x2, x3, x4, x5, rfl⟩
theorem len10 {α : Type} {l : List α} (h : l.length = 10) : ∃ x0 x1 x2 x3 x4 x5 x6 x7 x8 x9, l = [x0, x1, x2, x3, x4, x5, x6, x7, x8, x9] := by
  obtain ⟨x0, t0, rfl, h0⟩ := len_succ h
  obtain ⟨x1, t1, rfl, h1⟩ := len_succ h0
  obtain ⟨x2, t2, rfl, h2⟩ := len_succ h1
  obtain ⟨x3, t3, rfl, h3⟩ := len_succ h2
  obtain ⟨x4, t4, rfl, h4⟩ := len_succ h3
  obtain ⟨x5, t5, rfl, h5⟩ := len_succ h4
  obtain ⟨x6, t6, rfl, h6⟩ := len_succ h5
  obtain ⟨x7, t7, rfl, h7⟩ := len_succ h6
  obtain ⟨x8, t8, rfl, h8⟩ := len_succ h7
  obtain ⟨x9, t9, rfl, h9⟩ := len_succ h8
  obtain rfl := List.length_eq_zero_iff.1 h9
  exact ⟨x0, x1, x2, x3, x4, x5, x6, x7, x8, x9, rfl⟩
theorem len19 {α : Type} {l : List α} (h : l.length = 19) : ∃ x0 x1 x2 x3 x4 x5 x6 x7 x8 x9 x10 x11 x12 x13 x14 x15 x16 x17 x18, l = [x0, x1, x2, x3, x4, x5, x6, x7, x8, x9, x10, x11, x12, x13, x14, x15, x16, x17, x18] := by
  obtain ⟨x0, t0, rfl, h0⟩ := len_succ h
  obtain ⟨x1, t1, rfl, h1⟩ := len_succ h0
  obtain ⟨x2, t2, rfl, h2⟩ := len_succ h1
  obtain ⟨x3, t3, rfl, h3⟩ := len_succ h2
  obtain ⟨x4, t4, rfl, h4⟩ := len_succ h3
  obtain ⟨x5, t5, rfl, h5⟩ := len_succ h4
  obtain ⟨x6, t6, rfl, h6⟩ := len_succ h5
  obtain ⟨x7, t7, rfl, h7⟩ := len_succ h6
  obtain ⟨x8, t8, rfl, h8⟩ := len_succ h7
  obtain ⟨x9, t9, rfl, h9⟩ := len_succ h8
  obtain ⟨x10, t10, rfl, h10⟩ := len_succ h9
  obtain ⟨x11, t11, rfl, h11⟩ := len_succ h10
  obtain ⟨x12, t12, rfl, h12⟩ := len_succ h11
  obtain ⟨x13, t13, rfl, h13⟩ := len_succ h12
  obtain ⟨x14, t14, rfl, h14⟩ := len_succ h13
  obtain ⟨x15, t15, rfl, h15⟩ := len_succ h14
  obtain ⟨x16, t16, rfl, h16⟩ := len_succ h15
  obtain ⟨x17, t17, rfl, h17⟩ := len_succ h16
  obtain ⟨x18, t18, rfl, h18⟩ := len_succ h17
  obtain rfl := List.length_eq_zero_iff.1 h18
  exact ⟨x0, x1, x2, x3, x4, x5, x6, x7, x8, x9, x10, x11, x12, x13, x14, x15, x16, x17, x18, rfl⟩
section
variable {H : Type} {enc : TypeId × Value → H} {W : World} {base : Nat} {sp : Nat → Bool} {held : Bool} {fuel : Nat} {x : DataW H × List MemPlace}
theorem open_level {cs : List Value} (h : DataW.trod enc Try.prog W base sp held fuel 23 cs = some x) : ∃ l : Lv, cs = (lvA l).toList := by
  obtain ⟨xs, k, hk, hxy, hcl, hxl, hf⟩ := DataW.trod_struct Try.underlying23 h
  rw [clv] at hcl
  obtain ⟨v0, v1, v2, v3, v4, v5, v6, v7, v8, v9, rfl⟩ := len10 hcl
  obtain ⟨y0, y1, y2, y3, y4, y5, y6, y7, y8, y9, rfl⟩ := len10 (show xs.length = 10 from hxl)
  have g0 := hf 0 _ rfl
  have g1 := hf 1 _ rfl
  have g2 := hf 2 _ rfl
  have g3 := hf 3 _ rfl
  have g4 := hf 4 _ rfl
  have g5 := hf 5 _ rfl
  have g6 := hf 6 _ rfl
  have g7 := hf 7 _ rfl
  have g8 := hf 8 _ rfl
  have g9 := hf 9 _ rfl
  simp [cl3, cl9] at g0 g1 g2 g3 g4 g5 g6 g7 g8 g9
  obtain ⟨s0, h0, _, _⟩ := DataW.trod_string Try.underlying9 g0
  obtain ⟨n1, h1, _, _⟩ := DataW.trod_int Try.underlying3 g1
  obtain ⟨n2, h2, _, _⟩ := DataW.trod_int Try.underlying3 g2
  obtain ⟨n3, h3, _, _⟩ := DataW.trod_int Try.underlying3 g3
  obtain ⟨n4, h4, _, _⟩ := DataW.trod_int Try.underlying3 g4
  obtain ⟨n5, h5, _, _⟩ := DataW.trod_int Try.underlying3 g5
  obtain ⟨n6, h6, _, _⟩ := DataW.trod_int Try.underlying3 g6
  obtain ⟨n7, h7, _, _⟩ := DataW.trod_int Try.underlying3 g7
  obtain ⟨n8, h8, _, _⟩ := DataW.trod_int Try.underlying3 g8
  obtain ⟨n9, h9, _, _⟩ := DataW.trod_int Try.underlying3 g9
  simp at h0 h1 h2 h3 h4 h5 h6 h7 h8 h9
  subst h0 h1 h2 h3 h4 h5 h6 h7 h8 h9
  exact ⟨⟨s0, n1, n2, n3, n4, n5, n6, n7, n8, n9⟩, rfl⟩
theorem open_levelA {cs : Array Value} (h : DataW.trod enc Try.prog W base sp held fuel 23 cs.toList = some x) : ∃ l : Lv, cs = lvA l := by
  obtain ⟨l, e⟩ := open_level h
  exact ⟨l, Array.toList_inj.1 e⟩
theorem open_op1 {cs : List Value} (h : DataW.trod enc Try.prog W base sp held fuel 45 cs = some x) : ∃ o : Oq, cs = opL o ∧ OqOk W o := by
  obtain ⟨xs, k, hk, hxy, hcl, hxl, hf⟩ := DataW.trod_struct Try.underlying45 h
  rw [clo] at hcl
  obtain ⟨v0, v1, v2, v3, v4, v5, v6, v7, v8, v9, v10, v11, v12, v13, v14, v15, v16, v17, v18, rfl⟩ := len19 hcl
  obtain ⟨y0, y1, y2, y3, y4, y5, rfl⟩ := len6 (show xs.length = 6 from hxl)
  have g0 := hf 0 _ rfl
  have g1 := hf 1 _ rfl
  have g2 := hf 2 _ rfl
  have g3 := hf 3 _ rfl
  have g4 := hf 4 _ rfl
  have g5 := hf 5 _ rfl
  simp [cl3, cl26, cl28, clv, cl4] at g0 g1 g2 g3 g4 g5
  obtain ⟨n0, h0, _, _⟩ := DataW.trod_int Try.underlying3 g0
  obtain ⟨t, h1⟩ := open_tk1 g1
  obtain ⟨Hn, a, n, c, h2, hr⟩ := open_hand g2
  obtain ⟨n3, h3, _, _⟩ := DataW.trod_int Try.underlying3 g3
  obtain ⟨l, h4⟩ := open_level g4
  obtain ⟨b5, h5, _⟩ := DataW.trod_bool Try.underlying4 g5
  simp [tkC, lvA] at h0 h1 h2 h3 h4 h5
  obtain ⟨rfl, rfl, rfl, rfl, rfl⟩ := h1
  obtain ⟨rfl, rfl, rfl, rfl, rfl, rfl, rfl, rfl, rfl, rfl⟩ := h4
  subst h0 h2 h3 h5
  exact ⟨⟨⟨n0, t, n3, l, b5⟩, a, n, c, Hn⟩, rfl, hr⟩
theorem open_ops {v : Value} (h : DataW.trod enc Try.prog W base sp held fuel 24 [v] = some x) :
    ∃ o a n c, v = .slice a n c ∧ OqR W a n o ∧ n ≤ 9223372036854775807 := by
  rcases Go.Deep.open_slice Try.underlying24 h with ⟨hcs, _⟩ | ⟨a, l, c, m, n, D, Pl, hcs, _, hl, hm, hmm, hx, hc⟩
  · obtain rfl : v = .slice none 0 0 := by simpa using hcs
    exact ⟨fun _ => ⟨⟨0, tkZ, 0, ⟨⟨#[]⟩, 0, 0, 0, 0, 0, 0, 0, 0, 0⟩, false⟩, none, 0, 0, fun _ => 0⟩, none, 0, 0, rfl, (fun h => absurd h (Nat.lt_irrefl 0)), by decide⟩
  · obtain rfl : v = .slice (some a) l c := by simpa using hcs
    have hlm : l ≤ m := by rw [hmm]; split <;> omega
    have each : ∀ k, k < l → ∃ r : Oq, (∀ j, j < 19 → W.cell? (a.add (k * 19 + j)) = (opL r)[j]?) ∧ OqOk W r := by
      intro k hk
      obtain ⟨cs', h1, h2⟩ := hc k (by omega)
      rw [clo] at h1
      obtain ⟨_, hlen, hcell⟩ := World.cells?_some h1
      obtain ⟨r, rfl, hw⟩ := open_op1 h2
      exact ⟨r, fun j hj => by have := hcell j hj; rw [Go.Deep.add_add] at this; exact this, hw⟩
    have : Inhabited Oq := ⟨⟨⟨0, tkZ, 0, ⟨⟨#[]⟩, 0, 0, 0, 0, 0, 0, 0, 0, 0⟩, false⟩, none, 0, 0, fun _ => 0⟩⟩
    obtain ⟨q, hq⟩ := Go.Deep.choose_lt each
    refine ⟨q, some a, l, c, rfl, fun hn => ?_, by unfold maxLen at hm; omega⟩
    obtain ⟨b, off, spot⟩ := a
    have hu0 : W.cell? (Addr.add ⟨b, off, spot⟩ (0 * 19 + 0)) = some (.int .i64 (q 0).o.d) := (hq 0 hn).1 0 (by decide)
    have hspot : spot = none := by simpa [Addr.add] using World.cell?_spot hu0
    subst hspot
    rw [Go.WideShapes.add_plain] at hu0
    refine ⟨b, off, rfl, World.block_lt_of_cell? _ _ hu0, fun k hk => ⟨fun j hj => ?_, (hq k hk).2⟩⟩
    have y := (hq k hk).1 j hj
    rw [Go.WideShapes.add_plain] at y
    exact y
end
end Go.Proofs.Ytlgibnmoogbdcaa
