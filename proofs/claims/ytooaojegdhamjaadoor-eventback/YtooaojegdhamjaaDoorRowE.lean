/-
  An event that came in: how it lies in memory. Condition: it lies in memory.
-/
import Derived.Test.YtooaojegdhamjaaDoorEvU
import Derived.Test.YtooaojegdhamjaaDoorRowT
import Derived.OpenShut
namespace Go.Proofs.YtooaojegdhamjaaDoor
open Go.RowKit

theorem cl3 : Tryd.prog.cellsOf 3 = 1 := by kernel_rfl
theorem cl9 : Tryd.prog.cellsOf 9 = 1 := by kernel_rfl
theorem cl22 : Tryd.prog.cellsOf 22 = 1 := by kernel_rfl
theorem cl24 : Tryd.prog.cellsOf 24 = 6 := by kernel_rfl
theorem cl26 : Tryd.prog.cellsOf 26 = 10 := by kernel_rfl
theorem len_succ {α : Type} {n : Nat} : ∀ {l : List α}, l.length = n + 1 → ∃ a t, l = a :: t ∧ t.length = n
  | a :: t, h => ⟨a, t, rfl, by simpa using h⟩
theorem len5 {α : Type} {l : List α} (h : l.length = 5) : ∃ a b c d e, l = [a, b, c, d, e] := by
  obtain ⟨a, t1, rfl, h1⟩ := len_succ h
  obtain ⟨b, t2, rfl, h2⟩ := len_succ h1
  obtain ⟨c, t3, rfl, h3⟩ := len_succ h2
  obtain ⟨d, t4, rfl, h4⟩ := len_succ h3
  obtain ⟨e, t5, rfl, h5⟩ := len_succ h4
  obtain rfl := List.length_eq_zero_iff.1 h5
  exact ⟨a, b, c, d, e, rfl⟩
theorem len6 {α : Type} {l : List α} (h : l.length = 6) : ∃ a b c d e f, l = [a, b, c, d, e, f] := by
  obtain ⟨a, t1, rfl, h1⟩ := len_succ h
  obtain ⟨b, c, d, e, f, rfl⟩ := len5 h1
  exact ⟨a, b, c, d, e, f, rfl⟩
theorem len10 {α : Type} {l : List α} (h : l.length = 10) : ∃ a b c d e f g i j k, l = [a, b, c, d, e, f, g, i, j, k] := by
  obtain ⟨a, t1, rfl, h1⟩ := len_succ h
  obtain ⟨b, t2, rfl, h2⟩ := len_succ h1
  obtain ⟨c, t3, rfl, h3⟩ := len_succ h2
  obtain ⟨d, t4, rfl, h4⟩ := len_succ h3
  obtain ⟨e, f, g, i, j, k, rfl⟩ := len6 h4
  exact ⟨a, b, c, d, e, f, g, i, j, k, rfl⟩
/-- A list of texts that came in. -/
def LsI (W : World) (v : Value) (L : List ByteArray) : Prop := ∃ a c, v = .slice a L.length c ∧ RowL W a L ∧ L.length ≤ c ∧ L.length ≤ 9223372036854775807 ∧ ∀ x ∈ L, x.size ≤ 9223372036854775807

theorem open_list {H : Type} {enc : TypeId × Value → H} {W : World} {base : Nat} {sp : Nat → Bool} {held : Bool} {fuel : Nat} {x : DataW H × List MemPlace} {v : Value} (h : DataW.trod enc Tryd.prog W base sp held fuel 22 [v] = some x) : ∃ L, LsI W v L := by
  rcases Go.ChangeShapes.open_strings Tryd.underlying22 Tryd.underlying9 cl9 h with ⟨hcs, _⟩ | ⟨a, l, c, ss, hcs, _, hl, hm, hlen, _, hcell, hsz⟩
  · obtain rfl : v = .slice none 0 0 := by simpa using hcs
    exact ⟨[], none, 0, rfl, fun h => absurd h (Nat.lt_irrefl 0), Nat.le_refl _, Nat.zero_le _, fun _ h => by cases h⟩
  · obtain rfl : v = .slice (some a) l c := by simpa using hcs
    have hle : l ≤ ss.length := by rw [hlen]; split <;> omega
    have hlt : (ss.take l).length = l := by rw [List.length_take]; omega
    have hg : ∀ k, k < l → gt (ss.take l) k = ss.getD k ByteArray.empty := fun k hk => by
      rw [gt_eq (by omega), List.getElem_take, List.getD, List.getElem?_eq_getElem (by omega)]
      rfl
    have hm9 : c ≤ 9223372036854775807 := by unfold maxLen at hm; omega
    refine ⟨ss.take l, some a, c, by rw [hlt], fun hn => ?_, by omega, by omega, fun y hy => ?_⟩
    · rw [hlt] at hn
      obtain ⟨b, off, spot⟩ := a
      have hspot : spot = none := by simpa [Addr.add] using World.cell?_spot (hcell 0 (by omega))
      subst hspot
      refine ⟨b, off, rfl, ?_, fun k hk => ?_⟩
      · have := hcell 0 (by omega)
        rw [Go.WideShapes.add_plain] at this
        exact World.block_lt_of_cell? _ _ this
      · rw [hlt] at hk
        have q0 := hcell k (by omega)
        rw [Go.WideShapes.add_plain] at q0
        rw [q0, hg k hk]
    · have := hsz y (List.mem_of_mem_take hy)
      unfold maxLen at this
      omega
theorem int_of_wf {x : Int} (h : (Lit.int .i64 x).wf = true) : I64 x := by
  simp [Lit.wf, IntKind.min, IntKind.max, IntKind.signed, IntKind.bits] at h
  unfold I64
  omega
section
variable {H : Type} {enc : TypeId × Value → H} {W : World} {base : Nat} {sp : Nat → Bool} {held : Bool} {fuel : Nat} {x : DataW H × List MemPlace} {cs : Array Value}
theorem open_event (h : DataW.trod enc Tryd.prog W base sp held fuel 26 cs.toList = some x) : ∃ e a c, cs = evA e a c ∧ EvI W e a c := by
  obtain ⟨xs, k, hk, hxy, hcl, hxl, hf⟩ := DataW.trod_struct Tryd.underlying26 h
  rw [cl26] at hcl
  obtain ⟨cs⟩ := cs
  simp only at h hf hcl ⊢
  obtain ⟨v0, v1, v2, v3, v4, v5, v6, v7, v8, v9, rfl⟩ := len10 hcl
  obtain ⟨y0, y1, y2, y3, y4, rfl⟩ := len5 (show xs.length = 5 from hxl)
  have g0 := hf 0 _ rfl
  have g1 := hf 1 _ rfl
  have g2 := hf 2 _ rfl
  have g3 := hf 3 _ rfl
  have g4 := hf 4 _ rfl
  simp [cl3, cl9, cl24] at g0 g1 g2 g3 g4
  obtain ⟨n0, h0, _, w0⟩ := DataW.trod_int Tryd.underlying3 g0
  obtain ⟨n1, h1, _, w1⟩ := DataW.trod_int Tryd.underlying3 g1
  obtain ⟨n2, h2, _, w2⟩ := DataW.trod_int Tryd.underlying3 g2
  obtain ⟨s9, h9, _, w9⟩ := DataW.trod_string Tryd.underlying9 g4
  obtain ⟨xs3, k3, hk3, hxy3, hcl3, hxl3, hf3⟩ := DataW.trod_struct Tryd.underlying24 g3
  obtain ⟨z0, z1, z2, z3, z4, z5, rfl⟩ := len6 (show xs3.length = 6 from hxl3)
  have q0 := hf3 0 _ rfl
  have q1 := hf3 1 _ rfl
  have q2 := hf3 2 _ rfl
  have q3 := hf3 3 _ rfl
  have q4 := hf3 4 _ rfl
  have q5 := hf3 5 _ rfl
  simp [cl3, cl9, cl22] at q0 q1 q2 q3 q4 q5
  obtain ⟨s3, h3, _, w3⟩ := DataW.trod_string Tryd.underlying9 q0
  obtain ⟨L, l1⟩ := open_list q1
  obtain ⟨s5, h5, _, w5⟩ := DataW.trod_string Tryd.underlying9 q2
  obtain ⟨s6, h6, _, w6⟩ := DataW.trod_string Tryd.underlying9 q3
  obtain ⟨s7, h7, _, w7⟩ := DataW.trod_string Tryd.underlying9 q4
  obtain ⟨n8, h8, _, w8⟩ := DataW.trod_int Tryd.underlying3 q5
  simp at h0 h1 h2 h3 h5 h6 h7 h8 h9
  subst h0 h1 h2 h3 h5 h6 h7 h8 h9
  obtain ⟨a, c, e, hr, hc, hl, hx⟩ := l1
  subst e
  unfold maxLen at w3 w5 w6 w7 w9
  exact ⟨⟨n0, n1, n2, s3, L, s5, s6, s7, n8, s9⟩, a, c, rfl, hr, hc, fun k hk => hx _ (gt_mem hk), hl, ⟨by simp only; omega, by simp only; omega, by simp only; omega, by simp only; omega, by simp only; omega⟩, ⟨int_of_wf w0, int_of_wf w1, int_of_wf w2, int_of_wf w8⟩⟩
end
end Go.Proofs.YtooaojegdhamjaaDoor
