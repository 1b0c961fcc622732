/-
  'Small' of the reference answers, and a yes says that no list is long.
  A configuration in memory of its own: lists, rules, schemas, levels; what stays when a block of another type is written; how it is read.
  'copied' of fill, at levels, schemas, rules and texts: a row in memory of its own.
-/
import Derived.Test.YtijjpblmnlednaaGreatDoorE9
import Derived.Test.YtijjpblmnlednaaGreatDoorE14
import Derived.Test.YtijjpblmnlednaaGreatDoorE17
import Derived.Test.YtijjpblmnlednaaGreatDoorE19
namespace Go.Proofs.YtijjpblmnlednaaGreatDoor
open Go.RowKit
/-- A yes, which says that no list is long, or a no. -/
structure IsB (C : Cf) (e : Ending) : Prop where
  ex : ∃ b, e = .returned (.bool b) ∧ (b = true → Bnd 80 C)
def ScN (s : Sc) : Prop := s.rules.length ≤ 40 ∧ ∀ r ∈ s.rules, RlN 40 r
def fv (r : Rl) : Nat → List ByteArray
  | 0 => r.users
  | 1 => r.groups
  | 2 => r.verbs
  | 3 => r.resources
  | _ => r.spaces
theorem fv_all {r : Rl} (h : ∀ t, t < 5 → (fv r t).length ≤ 40) : RlN 40 r := ⟨h 0 (by decide), h 1 (by decide), h 2 (by decide), h 3 (by decide), h 4 (by decide)⟩
theorem bnd_of {C : Cf} (h1 : C.levels.length ≤ 40) (h2 : C.schemas.length ≤ 80) (h3 : ∀ t (h : t < C.schemas.length), ScN C.schemas[t]) : Bnd 80 C :=
  ⟨by omega, h2, fun s hs => by
    obtain ⟨k, hk, rfl⟩ := List.getElem_of_mem hs
    obtain ⟨a, b⟩ := h3 k hk
    exact ⟨by omega, fun r hr => by obtain ⟨c0, c1, c2, c3, c4⟩ := b r hr; exact ⟨by omega, by omega, by omega, by omega, by omega⟩⟩⟩
theorem next_of {α : Type} {P : α → Prop} {L : List α} {k : Nat} (h : ∀ t (h : t < L.length), t < k → P L[t]) (hk : k < L.length) (hp : P L[k]) : ∀ t (h : t < L.length), t < k + 1 → P L[t] := fun t ht hlt => by
  rcases Nat.lt_or_eq_of_le (Nat.le_of_lt_succ hlt) with h1 | h1
  · exact h t ht h1
  · subst h1; exact hp
/-- A configuration in the course of the look. -/
structure Sml (w wr : World) (A : Nat) (x0 x1 x2 x3 : Int) (aL : Option Addr) (cL : Nat) (aS : Option Addr) (cS : Nat) (L : List Lv) (S : List Sc) (V : List Value) : Prop where
  bel : Below w.heap.size w wr
  blk : Blk wr A 25 #[.int .i64 x0, .int .i64 x1, .int .i64 x2, .int .i64 x3, .slice aL L.length cL, .slice aS S.length cS]
  lv : LvR wr aL L
  sc : ScR wr aS S V
  rl : ∀ k (h : k < S.length) (h' : k < V.length), RlR wr V[k] S[k].rules
theorem Sml.grown {w wr w' : World} {A : Nat} {x0 x1 x2 x3 : Int} {aL : Option Addr} {cL : Nat} {aS : Option Addr} {cS : Nat} {L : List Lv} {S : List Sc} {V : List Value}
    (h : Sml w wr A x0 x1 x2 x3 aL cL aS cS L S V) (b : Below wr.heap.size wr w') : Sml w w' A x0 x1 x2 x3 aL cL aS cS L S V :=
  ⟨h.bel.trans (b.mono h.bel.size), h.blk.kept (Kept.of_below b (fun _ => False)) id, h.lv.carry b, h.sc.carry b, fun k h1 h2 => (h.rl k h1 h2).carry b⟩
/-- Five lists. -/
def Fiv (w : World) (g : Nat) (r : Rl) : Prop := g < w.heap.size ∧ ∀ p, p < 5 → ∃ v, w.cell? ⟨g, p, none⟩ = some v ∧ LsR w v (fv r p)
theorem Fiv.grown {w w' : World} {g : Nat} {r : Rl} (h : Fiv w g r) (b : Below w.heap.size w w') : Fiv w' g r :=
  ⟨Nat.lt_of_lt_of_le h.1 b.size, fun p hp => by
    obtain ⟨v, hc, hl⟩ := h.2 p hp
    exact ⟨v, (b.cell (p := ⟨g, p, none⟩) h.1).trans hc, hl.carry b⟩⟩
theorem Fiv.new {w : World} {v0 v1 v2 v3 v4 : Value} {r : Rl} (h : RuR w v0 v1 v2 v3 v4 r) : Fiv (w.alloc (.cells #[v0, v1, v2, v3, v4] 26)) w.heap.size r := by
  have AL := alloc_below w (.cells #[v0, v1, v2, v3, v4] 26)
  have NB := Blk.new w 26 #[v0, v1, v2, v3, v4]
  obtain ⟨l0, l1, l2, l3, l4⟩ := h
  refine ⟨NB.lt, fun p hp => ?_⟩
  match p, hp with
  | 0, _ => exact ⟨v0, NB.cellv 0 rfl, l0.carry AL⟩
  | 1, _ => exact ⟨v1, NB.cellv 1 rfl, l1.carry AL⟩
  | 2, _ => exact ⟨v2, NB.cellv 2 rfl, l2.carry AL⟩
  | 3, _ => exact ⟨v3, NB.cellv 3 rfl, l3.carry AL⟩
  | 4, _ => exact ⟨v4, NB.cellv 4 rfl, l4.carry AL⟩
/-- What the look at a schema keeps. -/
structure Smr (w wr : World) (A : Nat) (x0 x1 x2 x3 : Int) (aL : Option Addr) (cL : Nat) (aS : Option Addr) (cS : Nat) (L : List Lv) (S : List Sc) (V : List Value) (g : Nat) (y0 y1 : ByteArray) (y2 y3 : Int) (vr : Value) (rs : List Rl) : Prop where
  sm : Sml w wr A x0 x1 x2 x3 aL cL aS cS L S V
  bl : Blk wr g 53 #[.string y0, .string y1, .int .i64 y2, .int .i64 y3, vr]
  ru : RlR wr vr rs
theorem Smr.grown {w wr w' : World} {A : Nat} {x0 x1 x2 x3 : Int} {aL : Option Addr} {cL : Nat} {aS : Option Addr} {cS : Nat} {L : List Lv} {S : List Sc} {V : List Value} {g : Nat} {y0 y1 : ByteArray} {y2 y3 : Int} {vr : Value} {rs : List Rl}
    (h : Smr w wr A x0 x1 x2 x3 aL cL aS cS L S V g y0 y1 y2 y3 vr rs) (b : Below wr.heap.size wr w') : Smr w w' A x0 x1 x2 x3 aL cL aS cS L S V g y0 y1 y2 y3 vr rs :=
  ⟨h.sm.grown b, h.bl.kept (Kept.of_below b (fun _ => False)) id, h.ru.carry b⟩
/-- One after another the five are written. -/
theorem q5C_set : ∀ (L : List Q5) (i : Nat) (q : Q5), i < L.length →
    (((((q5C L).set (i * 5) q.v0).set (i * 5 + 1) q.v1).set (i * 5 + 2) q.v2).set (i * 5 + 3) q.v3).set (i * 5 + 4) q.v4 = q5C (L.set i q)
  | [], i, q, h => by simp at h
  | x :: L, 0, q, _ => by simp [q5C, q5L]
  | x :: L, i + 1, q, h => by
    have := q5C_set L i q (by simpa using h)
    simp only [q5C, q5L, List.set_cons_succ]
    rw [← this]
    rw [show (i + 1) * 5 = (i * 5) + 1 + 1 + 1 + 1 + 1 by omega]
    simp [List.set_cons_succ]
theorem scCs_set : ∀ (L : List Sc) (V : List Value) (i : Nat) (u : Value), i < L.length → i < V.length → (scCs L V).set (i * 5 + 4) u = scCs L (V.set i u)
  | [], _, i, u, h, _ => by simp at h
  | _ :: _, [], i, u, _, h => by simp at h
  | x :: L, v :: V, 0, u, _, _ => by simp [scCs, scC]
  | x :: L, v :: V, i + 1, u, h, h' => by
    have := scCs_set L V i u (by simpa using h) (by simpa using h')
    simp only [scCs, scC, List.set_cons_succ]
    rw [← this, show (i + 1) * 5 + 4 = (i * 5 + 4) + 1 + 1 + 1 + 1 + 1 by omega]
    simp [List.set_cons_succ]

section
variable {B : Nat} {S : Nat → Prop} {w w' : World} {v : Value}
/-- A store into an own row. -/
theorem owns_set {e size n g c : Nat} {xs : List Value} (h : w.ownsRow B e size (.slice (some ⟨g, 0, none⟩) n c) n xs) (i : Nat) (u : Value) : (w.setCell ⟨g, i, none⟩ u).ownsRow B e size (.slice (some ⟨g, 0, none⟩) n c) n (xs.set i u) := by
  obtain ⟨hl, h⟩ := h
  refine ⟨by simpa using hl, ?_⟩
  rcases h with ⟨e, _⟩ | ⟨g', cap, cur, e', hb, hg, hn, hc, hs, ht⟩
  · cases e
  · injection e' with e1 e2 e3
    injection e1 with e1
    injection e1 with e1
    subst e1 e3
    refine .inr ⟨g, c, cur.setIfInBounds i u, rfl, hb, Blk.set hg i u, hn, hc, by simpa using hs, ?_⟩
    rw [← ht]
    simp [List.take_set]
end

section
variable {B B' : Nat} {S : Nat → Prop} {w w' : World} {v : Value}
end
section
variable {B : Nat} {w : World} {v : Value}
end
theorem q5C_one {w : World} : ∀ (Q : List Q5) (rs : List Rl), Q.length = rs.length → (∀ k (h : k < rs.length) (h' : k < Q.length), RuR w Q[k].v0 Q[k].v1 Q[k].v2 Q[k].v3 Q[k].v4 rs[k]) → ∀ u ∈ q5C Q, u.oneCell' = true
  | [], _, _, _, u, h => by simp [q5C] at h
  | _ :: _, [], h, _, _, _ => by simp at h
  | q :: Q, r :: rs, hl, hr, u, h => by
    obtain ⟨⟨a0, c0, e0, -⟩, ⟨a1, c1, e1, -⟩, ⟨a2, c2, e2, -⟩, ⟨a3, c3, e3, -⟩, ⟨a4, c4, e4, -⟩⟩ := hr 0 (by simp) (by simp)
    simp only [List.getElem_cons_zero] at e0 e1 e2 e3 e4
    simp only [q5C, q5L, List.cons_append, List.nil_append, List.mem_cons] at h
    rcases h with rfl | rfl | rfl | rfl | rfl | h
    · rw [e0]; rfl
    · rw [e1]; rfl
    · rw [e2]; rfl
    · rw [e3]; rfl
    · rw [e4]; rfl
    · exact q5C_one Q rs (by simpa using hl) (fun k h1 h2 => hr (k + 1) (by simpa using h1) (by simpa using h2)) u h
theorem scCs_one {w : World} : ∀ (L : List Sc) (V : List Value), (∀ k (h : k < L.length) (h' : k < V.length), RlR w V[k] L[k].rules) → ∀ u ∈ scCs L V, u.oneCell' = true
  | [], _, _, u, h => by simp [scCs] at h
  | _ :: _, [], _, _, h => by simp [scCs] at h
  | s :: L, v :: V, hr, u, h => by
    obtain ⟨a0, c0, e0, -⟩ := hr 0 (by simp) (by simp)
    simp only [List.getElem_cons_zero] at e0
    simp only [scCs, scC, List.cons_append, List.nil_append, List.mem_cons] at h
    rcases h with rfl | rfl | rfl | rfl | rfl | h
    · rfl
    · rfl
    · rfl
    · rfl
    · rw [e0]; rfl
    · exact scCs_one L V (fun k h1 h2 => hr (k + 1) (by simpa using h1) (by simpa using h2)) u h
/-- A row laid anew. -/
structure Cpd (w : World) (et sz n : Nat) (xs : List Value) (e : Ending) (w' : World) : Prop where
  ex : ∃ v', e = .returned v' ∧ w'.ownsRow w.heap.size et sz v' n xs
  bel : Below w.heap.size w w'

set_option maxRecDepth 20000 in
theorem cpLv_ok (a : Option Addr) (n c : Nat) (xs : List Value) (w : World) (hl : xs.length = n * 10) (hn : 0 < n → ∃ b off, a = some ⟨b, off, none⟩ ∧ b < w.heap.size ∧ ∀ i u, xs[i]? = some u → w.cell? ⟨b, off + i, none⟩ = some u)
    (h1 : ∀ u ∈ xs, u.oneCell' = true) (h8 : n ≤ 1000) : Calls Tryz.prog 52 #[.slice a n c] w fun e w' => Cpd w 45 10 n xs e w' := by
  obtain ⟨i0, hi, hz0, hz1, hz2⟩ := info_parts info37c
  have own0 : w.ownsRow w.heap.size 45 10 (.slice none 0 0) 0 [] := ⟨by simp, .inl ⟨rfl, rfl⟩⟩
  have HL : Hd (n ≤ 1000) := ⟨h8⟩
  have HX : Hd (xs.length = n * 10) := ⟨hl⟩
  have H0 : Hd (n = 0 → Cpd w 45 10 n xs (.returned (.slice none 0 0)) w) := ⟨fun h => by
    subst h
    have : xs = [] := List.length_eq_zero_iff.1 (by omega)
    subst this
    exact ⟨⟨_, rfl, own0⟩, Below.refl _ _⟩⟩
  cases a with
  | none =>
    obtain rfl : n = 0 := by
      rcases Nat.eq_zero_or_pos n with h | h
      · exact h
      · obtain ⟨b, off, e, _⟩ := hn h; cases e
    clear hn h1 hl h8 HL
    go_enter Tryz.func52, Tryz.ntmps52
    go_wp2_with (at_builtin; refine wpList_append_own_none rfl _ _ 22 rfl w.heap.size 45 i0 10 Tryz.underlying22 hi _ _ _ rfl own0 rfl ?_)
    go_ret
    exact H0.out trivial
  | some ad =>
    have NW : ∀ j u, xs[j]? = some u → w.cell? (ad.add j) = some u := fun j u hu => by
      rcases Nat.eq_zero_or_pos n with h | h
      · subst h
        have : xs = [] := List.length_eq_zero_iff.1 (by omega)
        subst this
        simp at hu
      · obtain ⟨b, off, e, hb, hcs⟩ := hn h
        injection e with e
        subst e
        rw [Go.WideShapes.add_plain]
        exact hcs j u hu
    clear hn hl h8
    go_enter Tryz.func52, Tryz.ntmps52
    go_wp2_with (at_builtin; go_loud (refine wpList_append_own _ rfl _ _ 22 rfl w.heap.size 45 i0 (.agg #[.string ByteArray.empty, .int .i64 0, .int .i64 0, .int .i64 0, .int .i64 0, .int .i64 0, .int .i64 0, .int .i64 0, .int .i64 0, .int .i64 0]) 10 88 Tryz.underlying22 hi hz0 hz1 hz2 rfl (by decide) _ _ _ rfl own0 ad n c xs rfl HX.out NW h1 (by have := HL.out; unfold maxLen; omega) (by have := HL.out; omega) (Nat.le_refl _) ?_; intro v' w' hown hgr _; have F : Hd (Cpd w 45 10 n xs (.returned v') w') := ⟨⟨v', rfl, by simpa using hown⟩, (Below.refl _ _).grown hgr (Nat.le_refl _) (fun x hx => by cases hx)⟩))
    go_ret
    exact F.out

set_option maxRecDepth 20000 in
theorem cpSc_ok (a : Option Addr) (n c : Nat) (xs : List Value) (w : World) (hl : xs.length = n * 5) (hn : 0 < n → ∃ b off, a = some ⟨b, off, none⟩ ∧ b < w.heap.size ∧ ∀ i u, xs[i]? = some u → w.cell? ⟨b, off + i, none⟩ = some u)
    (h1 : ∀ u ∈ xs, u.oneCell' = true) (h8 : n ≤ 1000) : Calls Tryz.prog 54 #[.slice a n c] w fun e w' => Cpd w 53 5 n xs e w' := by
  obtain ⟨i0, hi, hz0, hz1, hz2⟩ := info_parts info40c
  have own0 : w.ownsRow w.heap.size 53 5 (.slice none 0 0) 0 [] := ⟨by simp, .inl ⟨rfl, rfl⟩⟩
  have HL : Hd (n ≤ 1000) := ⟨h8⟩
  have HX : Hd (xs.length = n * 5) := ⟨hl⟩
  have H0 : Hd (n = 0 → Cpd w 53 5 n xs (.returned (.slice none 0 0)) w) := ⟨fun h => by
    subst h
    have : xs = [] := List.length_eq_zero_iff.1 (by omega)
    subst this
    exact ⟨⟨_, rfl, own0⟩, Below.refl _ _⟩⟩
  cases a with
  | none =>
    obtain rfl : n = 0 := by
      rcases Nat.eq_zero_or_pos n with h | h
      · exact h
      · obtain ⟨b, off, e, _⟩ := hn h; cases e
    clear hn h1 hl h8 HL
    go_enter Tryz.func54, Tryz.ntmps54
    go_wp2_with (at_builtin; refine wpList_append_own_none rfl _ _ 23 rfl w.heap.size 53 i0 5 Tryz.underlying23 hi _ _ _ rfl own0 rfl ?_)
    go_ret
    exact H0.out trivial
  | some ad =>
    have NW : ∀ j u, xs[j]? = some u → w.cell? (ad.add j) = some u := fun j u hu => by
      rcases Nat.eq_zero_or_pos n with h | h
      · subst h
        have : xs = [] := List.length_eq_zero_iff.1 (by omega)
        subst this
        simp at hu
      · obtain ⟨b, off, e, hb, hcs⟩ := hn h
        injection e with e
        subst e
        rw [Go.WideShapes.add_plain]
        exact hcs j u hu
    clear hn hl h8
    go_enter Tryz.func54, Tryz.ntmps54
    go_wp2_with (at_builtin; go_loud (refine wpList_append_own _ rfl _ _ 23 rfl w.heap.size 53 i0 (.agg #[.string ByteArray.empty, .string ByteArray.empty, .int .i64 0, .int .i64 0, .slice none 0 0]) 5 72 Tryz.underlying23 hi hz0 hz1 hz2 rfl (by decide) _ _ _ rfl own0 ad n c xs rfl HX.out NW h1 (by have := HL.out; unfold maxLen; omega) (by have := HL.out; omega) (Nat.le_refl _) ?_; intro v' w' hown hgr _; have F : Hd (Cpd w 53 5 n xs (.returned v') w') := ⟨⟨v', rfl, by simpa using hown⟩, (Below.refl _ _).grown hgr (Nat.le_refl _) (fun x hx => by cases hx)⟩))
    go_ret
    exact F.out

set_option maxRecDepth 20000 in
theorem cpRl_ok (a : Option Addr) (n c : Nat) (xs : List Value) (w : World) (hl : xs.length = n * 5) (hn : 0 < n → ∃ b off, a = some ⟨b, off, none⟩ ∧ b < w.heap.size ∧ ∀ i u, xs[i]? = some u → w.cell? ⟨b, off + i, none⟩ = some u)
    (h1 : ∀ u ∈ xs, u.oneCell' = true) (h8 : n ≤ 1000) : Calls Tryz.prog 101 #[.slice a n c] w fun e w' => Cpd w 50 5 n xs e w' := by
  obtain ⟨i0, hi, hz0, hz1, hz2⟩ := info_parts info43c
  have own0 : w.ownsRow w.heap.size 50 5 (.slice none 0 0) 0 [] := ⟨by simp, .inl ⟨rfl, rfl⟩⟩
  have HL : Hd (n ≤ 1000) := ⟨h8⟩
  have HX : Hd (xs.length = n * 5) := ⟨hl⟩
  have H0 : Hd (n = 0 → Cpd w 50 5 n xs (.returned (.slice none 0 0)) w) := ⟨fun h => by
    subst h
    have : xs = [] := List.length_eq_zero_iff.1 (by omega)
    subst this
    exact ⟨⟨_, rfl, own0⟩, Below.refl _ _⟩⟩
  cases a with
  | none =>
    obtain rfl : n = 0 := by
      rcases Nat.eq_zero_or_pos n with h | h
      · exact h
      · obtain ⟨b, off, e, _⟩ := hn h; cases e
    clear hn h1 hl h8 HL
    go_enter Tryz.func101, Tryz.ntmps101
    go_wp2_with (at_builtin; refine wpList_append_own_none rfl _ _ 51 rfl w.heap.size 50 i0 5 Tryz.underlying51 hi _ _ _ rfl own0 rfl ?_)
    go_ret
    exact H0.out trivial
  | some ad =>
    have NW : ∀ j u, xs[j]? = some u → w.cell? (ad.add j) = some u := fun j u hu => by
      rcases Nat.eq_zero_or_pos n with h | h
      · subst h
        have : xs = [] := List.length_eq_zero_iff.1 (by omega)
        subst this
        simp at hu
      · obtain ⟨b, off, e, hb, hcs⟩ := hn h
        injection e with e
        subst e
        rw [Go.WideShapes.add_plain]
        exact hcs j u hu
    clear hn hl h8
    go_enter Tryz.func101, Tryz.ntmps101
    go_wp2_with (at_builtin; go_loud (refine wpList_append_own _ rfl _ _ 51 rfl w.heap.size 50 i0 (.agg #[.slice none 0 0, .slice none 0 0, .slice none 0 0, .slice none 0 0, .slice none 0 0]) 5 120 Tryz.underlying51 hi hz0 hz1 hz2 rfl (by decide) _ _ _ rfl own0 ad n c xs rfl HX.out NW h1 (by have := HL.out; unfold maxLen; omega) (by have := HL.out; omega) (Nat.le_refl _) ?_; intro v' w' hown hgr _; have F : Hd (Cpd w 50 5 n xs (.returned v') w') := ⟨⟨v', rfl, by simpa using hown⟩, (Below.refl _ _).grown hgr (Nat.le_refl _) (fun x hx => by cases hx)⟩))
    go_ret
    exact F.out

set_option maxRecDepth 20000 in
theorem cpLs_ok (a : Option Addr) (n c : Nat) (xs : List Value) (w : World) (hl : xs.length = n * 1) (hn : 0 < n → ∃ b off, a = some ⟨b, off, none⟩ ∧ b < w.heap.size ∧ ∀ i u, xs[i]? = some u → w.cell? ⟨b, off + i, none⟩ = some u)
    (h1 : ∀ u ∈ xs, u.oneCell' = true) (h8 : n ≤ 1000) : Calls Tryz.prog 102 #[.slice a n c] w fun e w' => Cpd w 9 1 n xs e w' := by
  obtain ⟨i0, hi, hz0, hz1, hz2⟩ := info_parts info9
  have own0 : w.ownsRow w.heap.size 9 1 (.slice none 0 0) 0 [] := ⟨by simp, .inl ⟨rfl, rfl⟩⟩
  have HL : Hd (n ≤ 1000) := ⟨h8⟩
  have HX : Hd (xs.length = n * 1) := ⟨hl⟩
  have H0 : Hd (n = 0 → Cpd w 9 1 n xs (.returned (.slice none 0 0)) w) := ⟨fun h => by
    subst h
    have : xs = [] := List.length_eq_zero_iff.1 (by omega)
    subst this
    exact ⟨⟨_, rfl, own0⟩, Below.refl _ _⟩⟩
  cases a with
  | none =>
    obtain rfl : n = 0 := by
      rcases Nat.eq_zero_or_pos n with h | h
      · exact h
      · obtain ⟨b, off, e, _⟩ := hn h; cases e
    clear hn h1 hl h8 HL
    go_enter Tryz.func102, Tryz.ntmps102
    go_wp2_with (at_builtin; refine wpList_append_own_none rfl _ _ 26 rfl w.heap.size 9 i0 1 Tryz.underlying26 hi _ _ _ rfl own0 rfl ?_)
    go_ret
    exact H0.out trivial
  | some ad =>
    have NW : ∀ j u, xs[j]? = some u → w.cell? (ad.add j) = some u := fun j u hu => by
      rcases Nat.eq_zero_or_pos n with h | h
      · subst h
        have : xs = [] := List.length_eq_zero_iff.1 (by omega)
        subst this
        simp at hu
      · obtain ⟨b, off, e, hb, hcs⟩ := hn h
        injection e with e
        subst e
        rw [Go.WideShapes.add_plain]
        exact hcs j u hu
    clear hn hl h8
    go_enter Tryz.func102, Tryz.ntmps102
    go_wp2_with (at_builtin; go_loud (refine wpList_append_own _ rfl _ _ 26 rfl w.heap.size 9 i0 (.string ByteArray.empty) 1 16 Tryz.underlying26 hi hz0 hz1 hz2 rfl (by decide) _ _ _ rfl own0 ad n c xs rfl HX.out NW h1 (by have := HL.out; unfold maxLen; omega) (by have := HL.out; omega) (Nat.le_refl _) ?_; intro v' w' hown hgr _; have F : Hd (Cpd w 9 1 n xs (.returned v') w') := ⟨⟨v', rfl, by simpa using hown⟩, (Below.refl _ _).grown hgr (Nat.le_refl _) (fun x hx => by cases hx)⟩))
    go_ret
    exact F.out

/-- A list of texts. -/
theorem cpT_ok (v : Value) (L : List ByteArray) (w : World) (h : LsR w v L) (h8 : L.length ≤ 1000) : Calls Tryz.prog 102 #[v] w fun e w' => Wd w L e w' := by
  obtain ⟨a, c, rfl, hr, hc, h9, hx⟩ := h
  refine (cpLs_ok a L.length c (L.map Value.string) w (by simp) (fun hn => ?_) (fun u hu => ?_) h8).mono ?_
  · obtain ⟨b, off, e, hb, hcs⟩ := hr hn
    refine ⟨b, off, e, hb, fun i u hu => ?_⟩
    rw [List.getElem?_map] at hu
    by_cases hj : i < L.length
    · rw [List.getElem?_eq_getElem hj] at hu
      have q := hcs i hj
      rw [gt_eq hj] at q
      rw [q]
      exact hu
    · rw [List.getElem?_eq_none (by omega)] at hu
      cases hu
  · obtain ⟨x, _, rfl⟩ := List.mem_map.1 hu
    rfl
  · rintro e w' ⟨⟨v', rfl, ho⟩, hb⟩
    exact ⟨⟨v', rfl, ho⟩, fun u hu => by injection hu with hu; subst hu; exact own_ls ho h9 hx, hb⟩
end Go.Proofs.YtijjpblmnlednaaGreatDoor
