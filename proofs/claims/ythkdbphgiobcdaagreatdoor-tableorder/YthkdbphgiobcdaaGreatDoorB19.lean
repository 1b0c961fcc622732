/-
  'copied' of fill, at levels, schemas, rules and texts: a row in memory of its own. Condition: it lies in memory, and is no longer than 1000.
-/
import Derived.Test.YthkdbphgiobcdaaGreatDoorB18
namespace Go.Proofs.YthkdbphgiobcdaaGreatDoor
open Go.RowKit

theorem q5C_one {w : World} : ∀ (Q : List Q5) (rs : List Rl), Q.length = rs.length → (∀ k (h : k < rs.length) (h' : k < Q.length), RuR w Q[k].v0 Q[k].v1 Q[k].v2 Q[k].v3 Q[k].v4 rs[k]) → ∀ u ∈ q5C Q, u.oneCell' = true
  | [], _, _, _, u, h => by simp [q5C] at h
  | _ :: _, [], h, _, _, _ => by simp at h
  | q :: Q, r :: rs, hl, hr, u, h => by
    obtain ⟨⟨a0, c0, e0, -⟩, ⟨a1, c1, e1, -⟩, ⟨a2, c2, e2, -⟩, ⟨a3, c3, e3, -⟩, ⟨a4, c4, e4, -⟩⟩ := hr 0 (by simp) (by simp)
    simp only [List.getElem_cons_zero] at e0 e1 e2 e3 e4
    simp only [q5C, q5L, List.cons_append, List.nil_append, List.mem_cons] at h
    rcases h with rfl | rfl | rfl | rfl | rfl | h
    · rw [e0]; rfl
    · rw [e1]; rfl
    · rw [e2]; rfl
    · rw [e3]; rfl
    · rw [e4]; rfl
    · exact q5C_one Q rs (by simpa using hl) (fun k h1 h2 => hr (k + 1) (by simpa using h1) (by simpa using h2)) u h
theorem scCs_one {w : World} : ∀ (L : List Sc) (V : List Value), (∀ k (h : k < L.length) (h' : k < V.length), RlR w V[k] L[k].rules) → ∀ u ∈ scCs L V, u.oneCell' = true
  | [], _, _, u, h => by simp [scCs] at h
  | _ :: _, [], _, _, h => by simp [scCs] at h
  | s :: L, v :: V, hr, u, h => by
    obtain ⟨a0, c0, e0, -⟩ := hr 0 (by simp) (by simp)
    simp only [List.getElem_cons_zero] at e0
    simp only [scCs, scC, List.cons_append, List.nil_append, List.mem_cons] at h
    rcases h with rfl | rfl | rfl | rfl | rfl | h
    · rfl
    · rfl
    · rfl
    · rfl
    · rw [e0]; rfl
    · exact scCs_one L V (fun k h1 h2 => hr (k + 1) (by simpa using h1) (by simpa using h2)) u h
/-- A row laid anew. -/
structure Cpd (w : World) (et sz n : Nat) (xs : List Value) (e : Ending) (w' : World) : Prop where
  ex : ∃ v', e = .returned v' ∧ w'.ownsRow w.heap.size et sz v' n xs
  bel : Below w.heap.size w w'

set_option maxRecDepth 20000 in
theorem cpLv_ok (a : Option Addr) (n c : Nat) (xs : List Value) (w : World) (hl : xs.length = n * 10) (hn : 0 < n → ∃ b off, a = some ⟨b, off, none⟩ ∧ b < w.heap.size ∧ ∀ i u, xs[i]? = some u → w.cell? ⟨b, off + i, none⟩ = some u)
    (h1 : ∀ u ∈ xs, u.oneCell' = true) (h8 : n ≤ 1000) : Calls Tryz.prog 75 #[.slice a n c] w fun e w' => Cpd w 43 10 n xs e w' := by
  obtain ⟨i0, hi, hz0, hz1, hz2⟩ := info_parts info37c
  have own0 : w.ownsRow w.heap.size 43 10 (.slice none 0 0) 0 [] := ⟨by simp, .inl ⟨rfl, rfl⟩⟩
  have HL : Hd (n ≤ 1000) := ⟨h8⟩
  have HX : Hd (xs.length = n * 10) := ⟨hl⟩
  have H0 : Hd (n = 0 → Cpd w 43 10 n xs (.returned (.slice none 0 0)) w) := ⟨fun h => by
    subst h
    have : xs = [] := List.length_eq_zero_iff.1 (by omega)
    subst this
    exact ⟨⟨_, rfl, own0⟩, Below.refl _ _⟩⟩
  cases a with
  | none =>
    obtain rfl : n = 0 := by
      rcases Nat.eq_zero_or_pos n with h | h
      · exact h
      · obtain ⟨b, off, e, _⟩ := hn h; cases e
    clear hn h1 hl h8 HL
    go_enter Tryz.func75, Tryz.ntmps75
    go_wp2_with (at_builtin; refine wpList_append_own_none rfl _ _ 22 rfl w.heap.size 43 i0 10 Tryz.underlying22 hi _ _ _ rfl own0 rfl ?_)
    go_ret
    exact H0.out trivial
  | some ad =>
    have NW : ∀ j u, xs[j]? = some u → w.cell? (ad.add j) = some u := fun j u hu => by
      rcases Nat.eq_zero_or_pos n with h | h
      · subst h
        have : xs = [] := List.length_eq_zero_iff.1 (by omega)
        subst this
        simp at hu
      · obtain ⟨b, off, e, hb, hcs⟩ := hn h
        injection e with e
        subst e
        rw [Go.WideShapes.add_plain]
        exact hcs j u hu
    clear hn hl h8
    go_enter Tryz.func75, Tryz.ntmps75
    go_wp2_with (at_builtin; go_loud (refine wpList_append_own _ rfl _ _ 22 rfl w.heap.size 43 i0 (.agg #[.string ByteArray.empty, .int .i64 0, .int .i64 0, .int .i64 0, .int .i64 0, .int .i64 0, .int .i64 0, .int .i64 0, .int .i64 0, .int .i64 0]) 10 88 Tryz.underlying22 hi hz0 hz1 hz2 rfl (by decide) _ _ _ rfl own0 ad n c xs rfl HX.out NW h1 (by have := HL.out; unfold maxLen; omega) (by have := HL.out; omega) (Nat.le_refl _) ?_; intro v' w' hown hgr _; have F : Hd (Cpd w 43 10 n xs (.returned v') w') := ⟨⟨v', rfl, by simpa using hown⟩, (Below.refl _ _).grown hgr (Nat.le_refl _) (fun x hx => by cases hx)⟩))
    go_ret
    exact F.out

set_option maxRecDepth 20000 in
theorem cpSc_ok (a : Option Addr) (n c : Nat) (xs : List Value) (w : World) (hl : xs.length = n * 5) (hn : 0 < n → ∃ b off, a = some ⟨b, off, none⟩ ∧ b < w.heap.size ∧ ∀ i u, xs[i]? = some u → w.cell? ⟨b, off + i, none⟩ = some u)
    (h1 : ∀ u ∈ xs, u.oneCell' = true) (h8 : n ≤ 1000) : Calls Tryz.prog 77 #[.slice a n c] w fun e w' => Cpd w 47 5 n xs e w' := by
  obtain ⟨i0, hi, hz0, hz1, hz2⟩ := info_parts info40c
  have own0 : w.ownsRow w.heap.size 47 5 (.slice none 0 0) 0 [] := ⟨by simp, .inl ⟨rfl, rfl⟩⟩
  have HL : Hd (n ≤ 1000) := ⟨h8⟩
  have HX : Hd (xs.length = n * 5) := ⟨hl⟩
  have H0 : Hd (n = 0 → Cpd w 47 5 n xs (.returned (.slice none 0 0)) w) := ⟨fun h => by
    subst h
    have : xs = [] := List.length_eq_zero_iff.1 (by omega)
    subst this
    exact ⟨⟨_, rfl, own0⟩, Below.refl _ _⟩⟩
  cases a with
  | none =>
    obtain rfl : n = 0 := by
      rcases Nat.eq_zero_or_pos n with h | h
      · exact h
      · obtain ⟨b, off, e, _⟩ := hn h; cases e
    clear hn h1 hl h8 HL
    go_enter Tryz.func77, Tryz.ntmps77
    go_wp2_with (at_builtin; refine wpList_append_own_none rfl _ _ 23 rfl w.heap.size 47 i0 5 Tryz.underlying23 hi _ _ _ rfl own0 rfl ?_)
    go_ret
    exact H0.out trivial
  | some ad =>
    have NW : ∀ j u, xs[j]? = some u → w.cell? (ad.add j) = some u := fun j u hu => by
      rcases Nat.eq_zero_or_pos n with h | h
      · subst h
        have : xs = [] := List.length_eq_zero_iff.1 (by omega)
        subst this
        simp at hu
      · obtain ⟨b, off, e, hb, hcs⟩ := hn h
        injection e with e
        subst e
        rw [Go.WideShapes.add_plain]
        exact hcs j u hu
    clear hn hl h8
    go_enter Tryz.func77, Tryz.ntmps77
    go_wp2_with (at_builtin; go_loud (refine wpList_append_own _ rfl _ _ 23 rfl w.heap.size 47 i0 (.agg #[.string ByteArray.empty, .string ByteArray.empty, .int .i64 0, .int .i64 0, .slice none 0 0]) 5 72 Tryz.underlying23 hi hz0 hz1 hz2 rfl (by decide) _ _ _ rfl own0 ad n c xs rfl HX.out NW h1 (by have := HL.out; unfold maxLen; omega) (by have := HL.out; omega) (Nat.le_refl _) ?_; intro v' w' hown hgr _; have F : Hd (Cpd w 47 5 n xs (.returned v') w') := ⟨⟨v', rfl, by simpa using hown⟩, (Below.refl _ _).grown hgr (Nat.le_refl _) (fun x hx => by cases hx)⟩))
    go_ret
    exact F.out

set_option maxRecDepth 20000 in
theorem cpRl_ok (a : Option Addr) (n c : Nat) (xs : List Value) (w : World) (hl : xs.length = n * 5) (hn : 0 < n → ∃ b off, a = some ⟨b, off, none⟩ ∧ b < w.heap.size ∧ ∀ i u, xs[i]? = some u → w.cell? ⟨b, off + i, none⟩ = some u)
    (h1 : ∀ u ∈ xs, u.oneCell' = true) (h8 : n ≤ 1000) : Calls Tryz.prog 128 #[.slice a n c] w fun e w' => Cpd w 54 5 n xs e w' := by
  obtain ⟨i0, hi, hz0, hz1, hz2⟩ := info_parts info43c
  have own0 : w.ownsRow w.heap.size 54 5 (.slice none 0 0) 0 [] := ⟨by simp, .inl ⟨rfl, rfl⟩⟩
  have HL : Hd (n ≤ 1000) := ⟨h8⟩
  have HX : Hd (xs.length = n * 5) := ⟨hl⟩
  have H0 : Hd (n = 0 → Cpd w 54 5 n xs (.returned (.slice none 0 0)) w) := ⟨fun h => by
    subst h
    have : xs = [] := List.length_eq_zero_iff.1 (by omega)
    subst this
    exact ⟨⟨_, rfl, own0⟩, Below.refl _ _⟩⟩
  cases a with
  | none =>
    obtain rfl : n = 0 := by
      rcases Nat.eq_zero_or_pos n with h | h
      · exact h
      · obtain ⟨b, off, e, _⟩ := hn h; cases e
    clear hn h1 hl h8 HL
    go_enter Tryz.func128, Tryz.ntmps128
    go_wp2_with (at_builtin; refine wpList_append_own_none rfl _ _ 45 rfl w.heap.size 54 i0 5 Tryz.underlying45 hi _ _ _ rfl own0 rfl ?_)
    go_ret
    exact H0.out trivial
  | some ad =>
    have NW : ∀ j u, xs[j]? = some u → w.cell? (ad.add j) = some u := fun j u hu => by
      rcases Nat.eq_zero_or_pos n with h | h
      · subst h
        have : xs = [] := List.length_eq_zero_iff.1 (by omega)
        subst this
        simp at hu
      · obtain ⟨b, off, e, hb, hcs⟩ := hn h
        injection e with e
        subst e
        rw [Go.WideShapes.add_plain]
        exact hcs j u hu
    clear hn hl h8
    go_enter Tryz.func128, Tryz.ntmps128
    go_wp2_with (at_builtin; go_loud (refine wpList_append_own _ rfl _ _ 45 rfl w.heap.size 54 i0 (.agg #[.slice none 0 0, .slice none 0 0, .slice none 0 0, .slice none 0 0, .slice none 0 0]) 5 120 Tryz.underlying45 hi hz0 hz1 hz2 rfl (by decide) _ _ _ rfl own0 ad n c xs rfl HX.out NW h1 (by have := HL.out; unfold maxLen; omega) (by have := HL.out; omega) (Nat.le_refl _) ?_; intro v' w' hown hgr _; have F : Hd (Cpd w 54 5 n xs (.returned v') w') := ⟨⟨v', rfl, by simpa using hown⟩, (Below.refl _ _).grown hgr (Nat.le_refl _) (fun x hx => by cases hx)⟩))
    go_ret
    exact F.out

set_option maxRecDepth 20000 in
theorem cpLs_ok (a : Option Addr) (n c : Nat) (xs : List Value) (w : World) (hl : xs.length = n * 1) (hn : 0 < n → ∃ b off, a = some ⟨b, off, none⟩ ∧ b < w.heap.size ∧ ∀ i u, xs[i]? = some u → w.cell? ⟨b, off + i, none⟩ = some u)
    (h1 : ∀ u ∈ xs, u.oneCell' = true) (h8 : n ≤ 1000) : Calls Tryz.prog 129 #[.slice a n c] w fun e w' => Cpd w 9 1 n xs e w' := by
  obtain ⟨i0, hi, hz0, hz1, hz2⟩ := info_parts info9
  have own0 : w.ownsRow w.heap.size 9 1 (.slice none 0 0) 0 [] := ⟨by simp, .inl ⟨rfl, rfl⟩⟩
  have HL : Hd (n ≤ 1000) := ⟨h8⟩
  have HX : Hd (xs.length = n * 1) := ⟨hl⟩
  have H0 : Hd (n = 0 → Cpd w 9 1 n xs (.returned (.slice none 0 0)) w) := ⟨fun h => by
    subst h
    have : xs = [] := List.length_eq_zero_iff.1 (by omega)
    subst this
    exact ⟨⟨_, rfl, own0⟩, Below.refl _ _⟩⟩
  cases a with
  | none =>
    obtain rfl : n = 0 := by
      rcases Nat.eq_zero_or_pos n with h | h
      · exact h
      · obtain ⟨b, off, e, _⟩ := hn h; cases e
    clear hn h1 hl h8 HL
    go_enter Tryz.func129, Tryz.ntmps129
    go_wp2_with (at_builtin; refine wpList_append_own_none rfl _ _ 52 rfl w.heap.size 9 i0 1 Tryz.underlying52 hi _ _ _ rfl own0 rfl ?_)
    go_ret
    exact H0.out trivial
  | some ad =>
    have NW : ∀ j u, xs[j]? = some u → w.cell? (ad.add j) = some u := fun j u hu => by
      rcases Nat.eq_zero_or_pos n with h | h
      · subst h
        have : xs = [] := List.length_eq_zero_iff.1 (by omega)
        subst this
        simp at hu
      · obtain ⟨b, off, e, hb, hcs⟩ := hn h
        injection e with e
        subst e
        rw [Go.WideShapes.add_plain]
        exact hcs j u hu
    clear hn hl h8
    go_enter Tryz.func129, Tryz.ntmps129
    go_wp2_with (at_builtin; go_loud (refine wpList_append_own _ rfl _ _ 52 rfl w.heap.size 9 i0 (.string ByteArray.empty) 1 16 Tryz.underlying52 hi hz0 hz1 hz2 rfl (by decide) _ _ _ rfl own0 ad n c xs rfl HX.out NW h1 (by have := HL.out; unfold maxLen; omega) (by have := HL.out; omega) (Nat.le_refl _) ?_; intro v' w' hown hgr _; have F : Hd (Cpd w 9 1 n xs (.returned v') w') := ⟨⟨v', rfl, by simpa using hown⟩, (Below.refl _ _).grown hgr (Nat.le_refl _) (fun x hx => by cases hx)⟩))
    go_ret
    exact F.out

/-- A list of texts. -/
theorem cpT_ok (v : Value) (L : List ByteArray) (w : World) (h : LsR w v L) (h8 : L.length ≤ 1000) : Calls Tryz.prog 129 #[v] w fun e w' => Wd w L e w' := by
  obtain ⟨a, c, rfl, hr, hc, h9, hx⟩ := h
  refine (cpLs_ok a L.length c (L.map Value.string) w (by simp) (fun hn => ?_) (fun u hu => ?_) h8).mono ?_
  · obtain ⟨b, off, e, hb, hcs⟩ := hr hn
    refine ⟨b, off, e, hb, fun i u hu => ?_⟩
    rw [List.getElem?_map] at hu
    by_cases hj : i < L.length
    · rw [List.getElem?_eq_getElem hj] at hu
      have q := hcs i hj
      rw [gt_eq hj] at q
      rw [q]
      exact hu
    · rw [List.getElem?_eq_none (by omega)] at hu
      cases hu
  · obtain ⟨x, _, rfl⟩ := List.mem_map.1 hu
    rfl
  · rintro e w' ⟨⟨v', rfl, ho⟩, hb⟩
    exact ⟨⟨v', rfl, ho⟩, fun u hu => by injection hu with hu; subst hu; exact own_ls ho h9 hx, hb⟩
end Go.Proofs.YthkdbphgiobcdaaGreatDoor
