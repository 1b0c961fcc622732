/-
  Two clocks and a slice of dues, apart from one another. Conditions: as each theorem says them.
-/
import Derived.Test.YthamaiibknmeeaaLaid
namespace Go.Proofs.Ythamaiibknmeeaa
open Go.RowKit Go.Lib Go.Sort Go.Maps

theorem laidM_pos (f : Nat → Int × Int) : ∀ k y, laidM f k y → 0 < y.1
  | 0, _, h => False.elim h
  | k + 1, y, h => by
    rw [laidM_succ] at h
    rcases h with ⟨e, rfl⟩ | h
    · unfold setC at e
      by_cases c : (f k).1 ≤ 0 ∨ 1099511627776 < (f k).1
      · rw [if_pos c] at e; omega
      · show 0 < (f k).1; omega
    · exact laidM_pos f k y h

/-- Two clocks and a slice of the dues of P, apart from one another, all from B on. -/
structure Trio (B : Nat) (w : World) (ca : Nat) (Sa : Nat → Prop) (ta : Int) (Ma : Int × Int → Prop) (na : Nat) (cb : Nat) (Sb : Nat → Prop) (tb : Int) (Mb : Int × Int → Prop) (nb : Nat) (v : Value) (P : List (Int × Int)) : Prop where
  hB : B ≤ w.heap.size
  a : Clk w ca Sa ta Ma na
  b : Clk w cb Sb tb Mb nb
  ab : ∀ k, Sa k → ¬ Sb k
  aB : ∀ k, Sa k → B ≤ k
  bB : ∀ k, Sb k → B ≤ k
  p : DOwn B w v P
  pa : ∀ g, v.ownBlock = some g → ¬ Sa g ∧ ¬ Sb g

section
variable {B : Nat} {w w' : World} {ca cb : Nat} {Sa Sb : Nat → Prop} {ta tb : Int} {Ma Mb : Int × Int → Prop} {na nb : Nat} {v : Value} {P : List (Int × Int)}
theorem Trio.symm (h : Trio B w ca Sa ta Ma na cb Sb tb Mb nb v P) : Trio B w cb Sb tb Mb nb ca Sa ta Ma na v P :=
  ⟨h.hB, h.b, h.a, fun k hb ha => h.ab k ha hb, h.bB, h.aB, h.p, fun g e => ⟨(h.pa g e).2, (h.pa g e).1⟩⟩
theorem Trio.below (h : Trio B w ca Sa ta Ma na cb Sb tb Mb nb v P) (k : Below w.heap.size w w') : Trio B w' ca Sa ta Ma na cb Sb tb Mb nb v P :=
  ⟨Nat.le_trans h.hB k.size, h.a.below k, h.b.below k, h.ab, h.aB, h.bB, h.p.below k, h.pa⟩
theorem Trio.congr {Mb' : Int × Int → Prop} (h : Trio B w ca Sa ta Ma na cb Sb tb Mb nb v P) (e : ∀ y, Mb' y ↔ Mb y) : Trio B w ca Sa ta Ma na cb Sb tb Mb' nb v P :=
  ⟨h.hB, h.a, h.b.congr e, h.ab, h.aB, h.bB, h.p, h.pa⟩
theorem trio_of (h : From B w ca ta Ma na) (k : From w.heap.size w' cb tb Mb nb) (b : Below w.heap.size w w') : ∃ Sa Sb, Trio B w' ca Sa ta Ma na cb Sb tb Mb nb (.slice none 0 0) [] := by
  obtain ⟨h0, Sa, h1, h2⟩ := h
  obtain ⟨k0, Sb, k1, k2⟩ := k
  refine ⟨Sa, Sb, Nat.le_trans h0 b.size, h1.below b, k1, fun j ha hb => ?_, h2, fun j hj => Nat.le_trans h0 (k2 j hj), DOwn.nil _ _, fun g e => by cases e⟩
  have e1 := h1.lt j ha
  have e2 := k2 j hb
  omega
theorem Trio.adv (h : Trio B w ca Sa ta Ma na cb Sb tb Mb nb v P) (to : Int) (c : tb ≤ to) (c2 : to ≤ 1099511627776) : Calls Try.prog 14 #[.pointer (some ⟨cb, 0, none⟩), .int .i64 to] w fun e w' =>
    ∃ u L, e = .returned (.tuple #[u, .int .i64 0]) ∧ DOwn w.heap.size w' u L ∧ ListOf L (fun y => Mb y ∧ y.1 ≤ to) ∧ L.length ≤ nb ∧ Trio B w' ca Sa ta Ma na cb Sb to (fun y => Mb y ∧ to < y.1) (nb - L.length) v P ∧ Kept Sb w w' ∧ Below B w w' ∧ (L = [] → u = .slice none 0 0) := by
  refine (advance_ok h.b to c c2).mono ?_
  rintro e w' ⟨u, L, rfl, q1, q2, q3, q4, k, q5⟩
  have b := k.below h.hB h.bB
  exact ⟨u, L, rfl, q1, q2, q3, ⟨Nat.le_trans h.hB b.size, h.a.kept k h.ab, q4, h.ab, h.aB, h.bB, h.p.kept k fun g e => (h.pa g e).2, h.pa⟩, k, b, q5⟩
/-- The slice is appended to. -/
theorem Trio.appended (h : Trio B w ca Sa ta Ma na cb Sb tb Mb nb v P) {L : List (Int × Int)} {g c : Nat} (hown : w'.ownsRow B 43 2 (.slice (some ⟨g, 0, none⟩) (P.length + L.length) c) (P.length + L.length) (dcl P ++ dcl L)) (hg : w.grownBy w' v.ownBlock) (hat : v.ownBlock = some g ∨ g = w.heap.size) :
    Trio B w' ca Sa ta Ma na cb Sb tb Mb nb (.slice (some ⟨g, 0, none⟩) (P.length + L.length) c) (P ++ L) ∧ Below B w w' := by
  have k : Kept (fun j => v.ownBlock = some j) w w' := Kept.of_grown hg fun j e => e
  refine ⟨⟨Nat.le_trans h.hB k.size, h.a.kept k fun j hj e => (h.pa j e).1 hj, h.b.kept k fun j hj e => (h.pa j e).2 hj, h.ab, h.aB, h.bB, ?_, fun g' e => ?_⟩, k.below h.hB fun j e => (World.ownsRow.lt h.p j e).1⟩
  · show w'.ownsRow _ _ _ _ _ _
    rw [List.length_append, dcl_append]
    exact hown
  · obtain rfl : g = g' := by simpa [Value.ownBlock] using e
    rcases hat with e | e
    · exact h.pa g e
    · exact ⟨fun hs => by have := h.a.lt g hs; omega, fun hs => by have := h.b.lt g hs; omega⟩
end

/-! ### an operation under a guard that lets it pass -/
theorem wpList_wanted {P : Program} {w : World} {ops : Array Oper} {rest : List Oper} {o : Oper} {a : Act} {Q : Exit → Act → World → Prop} (hw : Region.wanted o (yielded ops a.tmps) = true) (h : ∀ K : Act → World → Prop, (∀ a w, wpList P ops Q rest a w → K a w) → o.wp P a w K Q) : wpList P ops Q (o :: rest) a w :=
  wpList_step fun K hK => by rw [if_pos hw]; exact h K hK

theorem append_guarded {P : Program} (w : World) {ops : Array Oper} {rest : List Oper} {o : Oper} {a : Act} {Q : Exit → Act → World → Prop} (hw : Region.wanted o (yielded ops a.tmps) = true) (s x : Operand) (t : TypeId)
    (ho : o.op = .call { callee := .builtin .append, args := #[s, x], argTypes := #[t, t] })
    (base : Nat) (e : TypeId) (i : TypeInfo) (z : Value) (size bytes : Nat) (ht : P.underlying t = some (.slice e)) (hi : P.info? e = some i) (hz : i.zero = some z)
    (hsize : i.size = size) (hby : i.bytes = bytes) (hzs : z.cells.size = size) (hsz : 0 < size)
    (v : Value) (n : Nat) (xs : List Value) (hs : a.eval s = v) (hown : w.ownsRow base e size v n xs)
    (ad : Addr) (m c : Nat) (news : List Value) (hx : a.eval x = .slice (some ad) m c) (hl : news.length = m * size) (hnews : ∀ j u, news[j]? = some u → w.cell? (ad.add j) = some u) (h1 : ∀ u ∈ news, u.oneCell' = true)
    (hm : 0 < m) (h63 : n + m ≤ maxLen) (hbytes : (n + m) * bytes ≤ 140737488355328) (hbase : base ≤ w.heap.size) (H : Nat) (hH : w.heap.size = H)
    (h : ∀ g cap w', w'.ownsRow base e size (.slice (some ⟨g, 0, none⟩) (n + m) cap) (n + m) (xs ++ news) → w.grownBy w' v.ownBlock → (v.ownBlock = some g ∨ g = H) → g < w'.heap.size → wpList P ops Q rest (a.put o.dst (.slice (some ⟨g, 0, none⟩) (n + m) cap)) w') : wpList P ops Q (o :: rest) a w :=
  wpList_wanted hw fun _ hK => wp_append_lies w s x t ho base e i z size bytes ht hi hz hsize hby hzs hsz v n xs hs hown ad m c news hx hl hnews h1 hm h63 hbytes hbase H hH fun g cap w' h2 h3 h4 h5 => hK _ _ (h g cap w' h2 h3 h4 h5)

theorem append_none_guarded {P : Program} {w : World} {ops : Array Oper} {rest : List Oper} {o : Oper} {a : Act} {Q : Exit → Act → World → Prop} (hw : Region.wanted o (yielded ops a.tmps) = true) (s x : Operand) (t : TypeId)
    (ho : o.op = .call { callee := .builtin .append, args := #[s, x], argTypes := #[t, t] })
    (base : Nat) (e : TypeId) (i : TypeInfo) (size : Nat) (ht : P.underlying t = some (.slice e)) (hi : P.info? e = some i)
    (v : Value) (n : Nat) (xs : List Value) (hs : a.eval s = v) (hown : w.ownsRow base e size v n xs) (hx : a.eval x = .slice none 0 0)
    (h : wpList P ops Q rest (a.put o.dst v) w) : wpList P ops Q (o :: rest) a w := by
  refine wpList_wanted hw fun K hK => ?_
  have hrun := run_append_owned_none (P := P) (w := w) base t o.type e i size ht hi v n xs hown
  unfold Oper.wp
  simp [execOp, ho, resolve, invoke, builtin, hs, hx, hrun, Result.andThen]
  exact hK _ _ h

theorem list_parts {M : Int × Int → Prop} {tb to : Int} {P L : List (Int × Int)} (hP : ListOf P (fun y => M y ∧ y.1 ≤ tb)) (hL : ListOf L (fun y => (M y ∧ tb < y.1) ∧ y.1 ≤ to)) (h : tb ≤ to) : ListOf (P ++ L) (fun y => M y ∧ y.1 ≤ to) := by
  refine ⟨List.pairwise_append.2 ⟨hP.1, hL.1, fun a ha b hb => ?_⟩, fun y => ?_⟩
  · have e1 := ((hP.2 a).1 ha).2
    have e2 := ((hL.2 b).1 hb).1.2
    unfold lt
    omega
  · rw [List.mem_append, hP.2, hL.2]
    show ((M y ∧ y.1 ≤ tb) ∨ ((M y ∧ tb < y.1) ∧ y.1 ≤ to)) ↔ (M y ∧ y.1 ≤ to)
    constructor
    · rintro (⟨a, b⟩ | ⟨⟨a, b⟩, c⟩)
      · exact ⟨a, by omega⟩
      · exact ⟨a, c⟩
    · rintro ⟨a, b⟩
      by_cases c : y.1 ≤ tb
      · exact .inl ⟨a, c⟩
      · exact .inr ⟨⟨a, by omega⟩, b⟩
end Go.Proofs.Ythamaiibknmeeaa
