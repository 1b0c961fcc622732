/-
  A configuration in memory of its own: lists, rules, schemas, levels; what stays when a block of another type is written; how it is read. No condition.
  'copied' of fill, at levels, schemas, rules and texts: a row in memory of its own. Condition: it lies in memory, and is no longer than 1000.
  What is filled, as functions; whether a level or a schema of a name is there; the rule of anything. Condition: what is read lies in memory.
-/
import Derived.Test.YtlkoaldekmdcoaaGreatDoorQCpy
import Derived.Test.YtlkoaldekmdcoaaGreatDoorQPH
import Derived.Test.YtlkoaldekmdcoaaGreatDoorQRowC
import Derived.Test.YtlkoaldekmdcoaaGreatDoorQSmB
import Derived.Test.YtlkoaldekmdcoaaGreatDoorQSmS
import Derived.Test.YtlkoaldekmdcoaaGreatDoorQRU
import Derived.Test.YtlkoaldekmdcoaaGreatDoorQPX
namespace Go.Proofs.YtlkoaldekmdcoaaGreatDoor
open Go.RowKit

/-- One after another the five are written. -/
theorem q5C_set : ∀ (L : List Q5) (i : Nat) (q : Q5), i < L.length →
    (((((q5C L).set (i * 5) q.v0).set (i * 5 + 1) q.v1).set (i * 5 + 2) q.v2).set (i * 5 + 3) q.v3).set (i * 5 + 4) q.v4 = q5C (L.set i q)
  | [], i, q, h => by simp at h
  | x :: L, 0, q, _ => by simp [q5C, q5L]
  | x :: L, i + 1, q, h => by
    have := q5C_set L i q (by simpa using h)
    simp only [q5C, q5L, List.set_cons_succ]
    rw [← this]
    rw [show (i + 1) * 5 = (i * 5) + 1 + 1 + 1 + 1 + 1 by omega]
    simp [List.set_cons_succ]
theorem scCs_set : ∀ (L : List Sc) (V : List Value) (i : Nat) (u : Value), i < L.length → i < V.length → (scCs L V).set (i * 5 + 4) u = scCs L (V.set i u)
  | [], _, i, u, h, _ => by simp at h
  | _ :: _, [], i, u, _, h => by simp at h
  | x :: L, v :: V, 0, u, _, _ => by simp [scCs, scC]
  | x :: L, v :: V, i + 1, u, h, h' => by
    have := scCs_set L V i u (by simpa using h) (by simpa using h')
    simp only [scCs, scC, List.set_cons_succ]
    rw [← this, show (i + 1) * 5 + 4 = (i * 5 + 4) + 1 + 1 + 1 + 1 + 1 by omega]
    simp [List.set_cons_succ]

section
variable {B : Nat} {S : Nat → Prop} {w w' : World} {v : Value}
/-- A store into an own row. -/
theorem owns_set {e size n g c : Nat} {xs : List Value} (h : w.ownsRow B e size (.slice (some ⟨g, 0, none⟩) n c) n xs) (i : Nat) (u : Value) : (w.setCell ⟨g, i, none⟩ u).ownsRow B e size (.slice (some ⟨g, 0, none⟩) n c) n (xs.set i u) := by
  obtain ⟨hl, h⟩ := h
  refine ⟨by simpa using hl, ?_⟩
  rcases h with ⟨e, _⟩ | ⟨g', cap, cur, e', hb, hg, hn, hc, hs, ht⟩
  · cases e
  · injection e' with e1 e2 e3
    injection e1 with e1
    injection e1 with e1
    subst e1 e3
    refine .inr ⟨g, c, cur.setIfInBounds i u, rfl, hb, Blk.set hg i u, hn, hc, by simpa using hs, ?_⟩
    rw [← ht]
    simp [List.take_set]
end

section
variable {B B' : Nat} {S : Nat → Prop} {w w' : World} {v : Value}
end
section
variable {B : Nat} {w : World} {v : Value}
end
end Go.Proofs.YtlkoaldekmdcoaaGreatDoor

namespace Go.Proofs.YtlkoaldekmdcoaaGreatDoor
open Go.RowKit

theorem q5C_one {w : World} : ∀ (Q : List Q5) (rs : List Rl), Q.length = rs.length → (∀ k (h : k < rs.length) (h' : k < Q.length), RuR w Q[k].v0 Q[k].v1 Q[k].v2 Q[k].v3 Q[k].v4 rs[k]) → ∀ u ∈ q5C Q, u.oneCell' = true
  | [], _, _, _, u, h => by simp [q5C] at h
  | _ :: _, [], h, _, _, _ => by simp at h
  | q :: Q, r :: rs, hl, hr, u, h => by
    obtain ⟨⟨a0, c0, e0, -⟩, ⟨a1, c1, e1, -⟩, ⟨a2, c2, e2, -⟩, ⟨a3, c3, e3, -⟩, ⟨a4, c4, e4, -⟩⟩ := hr 0 (by simp) (by simp)
    simp only [List.getElem_cons_zero] at e0 e1 e2 e3 e4
    simp only [q5C, q5L, List.cons_append, List.nil_append, List.mem_cons] at h
    rcases h with rfl | rfl | rfl | rfl | rfl | h
    · rw [e0]; rfl
    · rw [e1]; rfl
    · rw [e2]; rfl
    · rw [e3]; rfl
    · rw [e4]; rfl
    · exact q5C_one Q rs (by simpa using hl) (fun k h1 h2 => hr (k + 1) (by simpa using h1) (by simpa using h2)) u h
theorem scCs_one {w : World} : ∀ (L : List Sc) (V : List Value), (∀ k (h : k < L.length) (h' : k < V.length), RlR w V[k] L[k].rules) → ∀ u ∈ scCs L V, u.oneCell' = true
  | [], _, _, u, h => by simp [scCs] at h
  | _ :: _, [], _, _, h => by simp [scCs] at h
  | s :: L, v :: V, hr, u, h => by
    obtain ⟨a0, c0, e0, -⟩ := hr 0 (by simp) (by simp)
    simp only [List.getElem_cons_zero] at e0
    simp only [scCs, scC, List.cons_append, List.nil_append, List.mem_cons] at h
    rcases h with rfl | rfl | rfl | rfl | rfl | h
    · rfl
    · rfl
    · rfl
    · rfl
    · rw [e0]; rfl
    · exact scCs_one L V (fun k h1 h2 => hr (k + 1) (by simpa using h1) (by simpa using h2)) u h
/-- A row laid anew. -/
structure Cpd (w : World) (et sz n : Nat) (xs : List Value) (e : Ending) (w' : World) : Prop where
  ex : ∃ v', e = .returned v' ∧ w'.ownsRow w.heap.size et sz v' n xs
  bel : Below w.heap.size w w'

set_option maxRecDepth 20000 in
theorem cpLv_ok (a : Option Addr) (n c : Nat) (xs : List Value) (w : World) (hl : xs.length = n * 10) (hn : 0 < n → ∃ b off, a = some ⟨b, off, none⟩ ∧ b < w.heap.size ∧ ∀ i u, xs[i]? = some u → w.cell? ⟨b, off + i, none⟩ = some u)
    (h1 : ∀ u ∈ xs, u.oneCell' = true) (h8 : n ≤ 1000) : Calls Tryz.prog 37 #[.slice a n c] w fun e w' => Cpd w 40 10 n xs e w' := by
  obtain ⟨i0, hi, hz0, hz1, hz2⟩ := info_parts info37c
  have own0 : w.ownsRow w.heap.size 40 10 (.slice none 0 0) 0 [] := ⟨by simp, .inl ⟨rfl, rfl⟩⟩
  have HL : Hd (n ≤ 1000) := ⟨h8⟩
  have HX : Hd (xs.length = n * 10) := ⟨hl⟩
  have H0 : Hd (n = 0 → Cpd w 40 10 n xs (.returned (.slice none 0 0)) w) := ⟨fun h => by
    subst h
    have : xs = [] := List.length_eq_zero_iff.1 (by omega)
    subst this
    exact ⟨⟨_, rfl, own0⟩, Below.refl _ _⟩⟩
  cases a with
  | none =>
    obtain rfl : n = 0 := by
      rcases Nat.eq_zero_or_pos n with h | h
      · exact h
      · obtain ⟨b, off, e, _⟩ := hn h; cases e
    clear hn h1 hl h8 HL
    go_enter Tryz.func37, Tryz.ntmps37
    go_wp2_with (at_builtin; refine wpList_append_own_none rfl _ _ 22 rfl w.heap.size 40 i0 10 Tryz.underlying22 hi _ _ _ rfl own0 rfl ?_)
    go_ret
    exact H0.out trivial
  | some ad =>
    have NW : ∀ j u, xs[j]? = some u → w.cell? (ad.add j) = some u := fun j u hu => by
      rcases Nat.eq_zero_or_pos n with h | h
      · subst h
        have : xs = [] := List.length_eq_zero_iff.1 (by omega)
        subst this
        simp at hu
      · obtain ⟨b, off, e, hb, hcs⟩ := hn h
        injection e with e
        subst e
        rw [Go.WideShapes.add_plain]
        exact hcs j u hu
    clear hn hl h8
    go_enter Tryz.func37, Tryz.ntmps37
    go_wp2_with (at_builtin; go_loud (refine wpList_append_own _ rfl _ _ 22 rfl w.heap.size 40 i0 (.agg #[.string ByteArray.empty, .int .i64 0, .int .i64 0, .int .i64 0, .int .i64 0, .int .i64 0, .int .i64 0, .int .i64 0, .int .i64 0, .int .i64 0]) 10 88 Tryz.underlying22 hi hz0 hz1 hz2 rfl (by decide) _ _ _ rfl own0 ad n c xs rfl HX.out NW h1 (by have := HL.out; unfold maxLen; omega) (by have := HL.out; omega) (Nat.le_refl _) ?_; intro v' w' hown hgr _; have F : Hd (Cpd w 40 10 n xs (.returned v') w') := ⟨⟨v', rfl, by simpa using hown⟩, (Below.refl _ _).grown hgr (Nat.le_refl _) (fun x hx => by cases hx)⟩))
    go_ret
    exact F.out

set_option maxRecDepth 20000 in
theorem cpSc_ok (a : Option Addr) (n c : Nat) (xs : List Value) (w : World) (hl : xs.length = n * 5) (hn : 0 < n → ∃ b off, a = some ⟨b, off, none⟩ ∧ b < w.heap.size ∧ ∀ i u, xs[i]? = some u → w.cell? ⟨b, off + i, none⟩ = some u)
    (h1 : ∀ u ∈ xs, u.oneCell' = true) (h8 : n ≤ 1000) : Calls Tryz.prog 39 #[.slice a n c] w fun e w' => Cpd w 46 5 n xs e w' := by
  obtain ⟨i0, hi, hz0, hz1, hz2⟩ := info_parts info40c
  have own0 : w.ownsRow w.heap.size 46 5 (.slice none 0 0) 0 [] := ⟨by simp, .inl ⟨rfl, rfl⟩⟩
  have HL : Hd (n ≤ 1000) := ⟨h8⟩
  have HX : Hd (xs.length = n * 5) := ⟨hl⟩
  have H0 : Hd (n = 0 → Cpd w 46 5 n xs (.returned (.slice none 0 0)) w) := ⟨fun h => by
    subst h
    have : xs = [] := List.length_eq_zero_iff.1 (by omega)
    subst this
    exact ⟨⟨_, rfl, own0⟩, Below.refl _ _⟩⟩
  cases a with
  | none =>
    obtain rfl : n = 0 := by
      rcases Nat.eq_zero_or_pos n with h | h
      · exact h
      · obtain ⟨b, off, e, _⟩ := hn h; cases e
    clear hn h1 hl h8 HL
    go_enter Tryz.func39, Tryz.ntmps39
    go_wp2_with (at_builtin; refine wpList_append_own_none rfl _ _ 23 rfl w.heap.size 46 i0 5 Tryz.underlying23 hi _ _ _ rfl own0 rfl ?_)
    go_ret
    exact H0.out trivial
  | some ad =>
    have NW : ∀ j u, xs[j]? = some u → w.cell? (ad.add j) = some u := fun j u hu => by
      rcases Nat.eq_zero_or_pos n with h | h
      · subst h
        have : xs = [] := List.length_eq_zero_iff.1 (by omega)
        subst this
        simp at hu
      · obtain ⟨b, off, e, hb, hcs⟩ := hn h
        injection e with e
        subst e
        rw [Go.WideShapes.add_plain]
        exact hcs j u hu
    clear hn hl h8
    go_enter Tryz.func39, Tryz.ntmps39
    go_wp2_with (at_builtin; go_loud (refine wpList_append_own _ rfl _ _ 23 rfl w.heap.size 46 i0 (.agg #[.string ByteArray.empty, .string ByteArray.empty, .int .i64 0, .int .i64 0, .slice none 0 0]) 5 72 Tryz.underlying23 hi hz0 hz1 hz2 rfl (by decide) _ _ _ rfl own0 ad n c xs rfl HX.out NW h1 (by have := HL.out; unfold maxLen; omega) (by have := HL.out; omega) (Nat.le_refl _) ?_; intro v' w' hown hgr _; have F : Hd (Cpd w 46 5 n xs (.returned v') w') := ⟨⟨v', rfl, by simpa using hown⟩, (Below.refl _ _).grown hgr (Nat.le_refl _) (fun x hx => by cases hx)⟩))
    go_ret
    exact F.out

set_option maxRecDepth 20000 in
theorem cpRl_ok (a : Option Addr) (n c : Nat) (xs : List Value) (w : World) (hl : xs.length = n * 5) (hn : 0 < n → ∃ b off, a = some ⟨b, off, none⟩ ∧ b < w.heap.size ∧ ∀ i u, xs[i]? = some u → w.cell? ⟨b, off + i, none⟩ = some u)
    (h1 : ∀ u ∈ xs, u.oneCell' = true) (h8 : n ≤ 1000) : Calls Tryz.prog 64 #[.slice a n c] w fun e w' => Cpd w 51 5 n xs e w' := by
  obtain ⟨i0, hi, hz0, hz1, hz2⟩ := info_parts info43c
  have own0 : w.ownsRow w.heap.size 51 5 (.slice none 0 0) 0 [] := ⟨by simp, .inl ⟨rfl, rfl⟩⟩
  have HL : Hd (n ≤ 1000) := ⟨h8⟩
  have HX : Hd (xs.length = n * 5) := ⟨hl⟩
  have H0 : Hd (n = 0 → Cpd w 51 5 n xs (.returned (.slice none 0 0)) w) := ⟨fun h => by
    subst h
    have : xs = [] := List.length_eq_zero_iff.1 (by omega)
    subst this
    exact ⟨⟨_, rfl, own0⟩, Below.refl _ _⟩⟩
  cases a with
  | none =>
    obtain rfl : n = 0 := by
      rcases Nat.eq_zero_or_pos n with h | h
      · exact h
      · obtain ⟨b, off, e, _⟩ := hn h; cases e
    clear hn h1 hl h8 HL
    go_enter Tryz.func64, Tryz.ntmps64
    go_wp2_with (at_builtin; refine wpList_append_own_none rfl _ _ 44 rfl w.heap.size 51 i0 5 Tryz.underlying44 hi _ _ _ rfl own0 rfl ?_)
    go_ret
    exact H0.out trivial
  | some ad =>
    have NW : ∀ j u, xs[j]? = some u → w.cell? (ad.add j) = some u := fun j u hu => by
      rcases Nat.eq_zero_or_pos n with h | h
      · subst h
        have : xs = [] := List.length_eq_zero_iff.1 (by omega)
        subst this
        simp at hu
      · obtain ⟨b, off, e, hb, hcs⟩ := hn h
        injection e with e
        subst e
        rw [Go.WideShapes.add_plain]
        exact hcs j u hu
    clear hn hl h8
    go_enter Tryz.func64, Tryz.ntmps64
    go_wp2_with (at_builtin; go_loud (refine wpList_append_own _ rfl _ _ 44 rfl w.heap.size 51 i0 (.agg #[.slice none 0 0, .slice none 0 0, .slice none 0 0, .slice none 0 0, .slice none 0 0]) 5 120 Tryz.underlying44 hi hz0 hz1 hz2 rfl (by decide) _ _ _ rfl own0 ad n c xs rfl HX.out NW h1 (by have := HL.out; unfold maxLen; omega) (by have := HL.out; omega) (Nat.le_refl _) ?_; intro v' w' hown hgr _; have F : Hd (Cpd w 51 5 n xs (.returned v') w') := ⟨⟨v', rfl, by simpa using hown⟩, (Below.refl _ _).grown hgr (Nat.le_refl _) (fun x hx => by cases hx)⟩))
    go_ret
    exact F.out

set_option maxRecDepth 20000 in
theorem cpLs_ok (a : Option Addr) (n c : Nat) (xs : List Value) (w : World) (hl : xs.length = n * 1) (hn : 0 < n → ∃ b off, a = some ⟨b, off, none⟩ ∧ b < w.heap.size ∧ ∀ i u, xs[i]? = some u → w.cell? ⟨b, off + i, none⟩ = some u)
    (h1 : ∀ u ∈ xs, u.oneCell' = true) (h8 : n ≤ 1000) : Calls Tryz.prog 65 #[.slice a n c] w fun e w' => Cpd w 9 1 n xs e w' := by
  obtain ⟨i0, hi, hz0, hz1, hz2⟩ := info_parts info9
  have own0 : w.ownsRow w.heap.size 9 1 (.slice none 0 0) 0 [] := ⟨by simp, .inl ⟨rfl, rfl⟩⟩
  have HL : Hd (n ≤ 1000) := ⟨h8⟩
  have HX : Hd (xs.length = n * 1) := ⟨hl⟩
  have H0 : Hd (n = 0 → Cpd w 9 1 n xs (.returned (.slice none 0 0)) w) := ⟨fun h => by
    subst h
    have : xs = [] := List.length_eq_zero_iff.1 (by omega)
    subst this
    exact ⟨⟨_, rfl, own0⟩, Below.refl _ _⟩⟩
  cases a with
  | none =>
    obtain rfl : n = 0 := by
      rcases Nat.eq_zero_or_pos n with h | h
      · exact h
      · obtain ⟨b, off, e, _⟩ := hn h; cases e
    clear hn h1 hl h8 HL
    go_enter Tryz.func65, Tryz.ntmps65
    go_wp2_with (at_builtin; refine wpList_append_own_none rfl _ _ 49 rfl w.heap.size 9 i0 1 Tryz.underlying49 hi _ _ _ rfl own0 rfl ?_)
    go_ret
    exact H0.out trivial
  | some ad =>
    have NW : ∀ j u, xs[j]? = some u → w.cell? (ad.add j) = some u := fun j u hu => by
      rcases Nat.eq_zero_or_pos n with h | h
      · subst h
        have : xs = [] := List.length_eq_zero_iff.1 (by omega)
        subst this
        simp at hu
      · obtain ⟨b, off, e, hb, hcs⟩ := hn h
        injection e with e
        subst e
        rw [Go.WideShapes.add_plain]
        exact hcs j u hu
    clear hn hl h8
    go_enter Tryz.func65, Tryz.ntmps65
    go_wp2_with (at_builtin; go_loud (refine wpList_append_own _ rfl _ _ 49 rfl w.heap.size 9 i0 (.string ByteArray.empty) 1 16 Tryz.underlying49 hi hz0 hz1 hz2 rfl (by decide) _ _ _ rfl own0 ad n c xs rfl HX.out NW h1 (by have := HL.out; unfold maxLen; omega) (by have := HL.out; omega) (Nat.le_refl _) ?_; intro v' w' hown hgr _; have F : Hd (Cpd w 9 1 n xs (.returned v') w') := ⟨⟨v', rfl, by simpa using hown⟩, (Below.refl _ _).grown hgr (Nat.le_refl _) (fun x hx => by cases hx)⟩))
    go_ret
    exact F.out

/-- A list of texts. -/
theorem cpT_ok (v : Value) (L : List ByteArray) (w : World) (h : LsR w v L) (h8 : L.length ≤ 1000) : Calls Tryz.prog 65 #[v] w fun e w' => Wd w L e w' := by
  obtain ⟨a, c, rfl, hr, hc, h9, hx⟩ := h
  refine (cpLs_ok a L.length c (L.map Value.string) w (by simp) (fun hn => ?_) (fun u hu => ?_) h8).mono ?_
  · obtain ⟨b, off, e, hb, hcs⟩ := hr hn
    refine ⟨b, off, e, hb, fun i u hu => ?_⟩
    rw [List.getElem?_map] at hu
    by_cases hj : i < L.length
    · rw [List.getElem?_eq_getElem hj] at hu
      have q := hcs i hj
      rw [gt_eq hj] at q
      rw [q]
      exact hu
    · rw [List.getElem?_eq_none (by omega)] at hu
      cases hu
  · obtain ⟨x, _, rfl⟩ := List.mem_map.1 hu
    rfl
  · rintro e w' ⟨⟨v', rfl, ho⟩, hb⟩
    exact ⟨⟨v', rfl, ho⟩, fun u hu => by injection hu with hu; subst hu; exact own_ls ho h9 hx, hb⟩
end Go.Proofs.YtlkoaldekmdcoaaGreatDoor

namespace Go.Proofs.YtlkoaldekmdcoaaGreatDoor
open Go.RowKit

theorem orU_ok (x u : Int) (w : World) : Calls Tryz.prog 16 #[.int .i64 x, .int .i64 u] w fun e w' => e = .returned (.int .i64 (orU x u)) ∧ w' = w := by
  by_cases h : x = 0
  · have e : orU x u = u := if_pos h
    rw [e]
    clear e
    subst h
    go_enter Tryz.func16, Tryz.ntmps16
    go_wp2_with fail
    go_ret
    exact ⟨rfl, rfl⟩
  · have e : orU x u = x := if_neg h
    rw [e]
    clear e
    go_enter Tryz.func16, Tryz.ntmps16
    go_wp2_with fail
    go_ret
    exact ⟨rfl, rfl⟩
theorem hasLv_ok (a : Option Addr) (c : Nat) (L : List Lv) (x : ByteArray) (w : World) (hr : LvR w a L) (hl : L.length ≤ 65536) :
    Calls Tryz.prog 38 #[.slice a L.length c, .string x] w fun e w' => e = .returned (.bool (anyL L x)) ∧ Below w.heap.size w w' := by
  have AL := alloc_below w (.cells #[.string x] 9)
  have P := phasLvF a c L w.heap.size x (w.alloc (.cells #[.string x] 9)) ((Blk.new w 9 #[.string x]).cellv 0 rfl) (hr.carry AL) hl
  have BB : Hd (Below w.heap.size w (w.alloc (.cells #[.string x] 9))) := ⟨AL⟩
  unfold anyL
  clear AL hr
  generalize (L.any fun l => decide (l.name = x)) = b at *
  generalize L.length = m at *
  go_enter Tryz.func38, Tryz.ntmps38
  go_wp2_with (go_at_call 62; refine P.mono ?_; rintro e w' ⟨rfl, hb⟩)
  go_ret
  exact ⟨rfl, BB.out.trans (hb.mono BB.out.size)⟩
theorem hasSc_ok (a : Option Addr) (c : Nat) (L : List Sc) (V : List Value) (x : ByteArray) (w : World) (hr : ScR w a L V) (hV : V.length = L.length) (hl : L.length ≤ 65536) :
    Calls Tryz.prog 41 #[.slice a L.length c, .string x] w fun e w' => e = .returned (.bool (anyS L x)) ∧ Below w.heap.size w w' := by
  have AL := alloc_below w (.cells #[.string x] 9)
  have P := phasScF a c L V w.heap.size x (w.alloc (.cells #[.string x] 9)) ((Blk.new w 9 #[.string x]).cellv 0 rfl) (hr.carry AL) hV hl
  have BB : Hd (Below w.heap.size w (w.alloc (.cells #[.string x] 9))) := ⟨AL⟩
  unfold anyS
  clear AL hr hV
  generalize (L.any fun l => decide (l.name = x)) = b at *
  generalize L.length = m at *
  go_enter Tryz.func41, Tryz.ntmps41
  go_wp2_with (go_at_call 66; refine P.mono ?_; rintro e w' ⟨rfl, hb⟩)
  go_ret
  exact ⟨rfl, BB.out.trans (hb.mono BB.out.size)⟩

theorem res33 (tmps : Array Value) (w : World) (r0 : Nat) (v0 v1 v2 v3 v4 : Value) (ht : tmps[0]?.getD undef = .pointer (some ⟨r0, 0, none⟩)) (h : Blk w r0 51 #[v0, v1, v2, v3, v4]) :
    (results Tryz.f68 tmps).run Tryz.prog w = .ok (.agg #[v0, v1, v2, v3, v4]) w := by
  have c0 := h.cellv 0 rfl
  have c1 := h.cellv 1 rfl
  have c2 := h.cellv 2 rfl
  have c3 := h.cellv 3 rfl
  have c4 := h.cellv 4 rfl
  simp at c0 c1 c2 c3 c4
  simp [results, Tryz.results68, go_sem, ht, c0, c1, c2, c3, c4]
theorem own_one {B : Nat} {w : World} {g : Nat} {x : ByteArray} (h : Blk w g 9 #[.string x]) (hB : B ≤ g) : OwnT B w (.slice (some ⟨g, 0, none⟩) 1 1) [x] :=
  ⟨rfl, .inr ⟨g, 1, _, rfl, hB, h, Nat.le_refl _, by unfold maxLen; omega, rfl, rfl⟩⟩
theorem own_nil (B : Nat) (w : World) : OwnT B w (.slice none 0 0) [] := ⟨rfl, .inl ⟨rfl, rfl⟩⟩
/-- A rule of anything. -/
structure Any3 (w : World) (e : Ending) (w' : World) : Prop where
  ex : ∃ g1 g2 g3, e = .returned (.agg #[.slice none 0 0, .slice none 0 0, .slice (some ⟨g1, 0, none⟩) 1 1, .slice (some ⟨g2, 0, none⟩) 1 1, .slice (some ⟨g3, 0, none⟩) 1 1]) ∧ (Blk w' g1 9 #[.string tStar] ∧ Blk w' g2 9 #[.string tStar] ∧ Blk w' g3 9 #[.string tStar]) ∧ w.heap.size ≤ g1 ∧ w.heap.size ≤ g2 ∧ w.heap.size ≤ g3
  bel : Below w.heap.size w w'
theorem any3_mem (w : World) (cs a b c : Array Value) : Blk ((((w.alloc (.cells cs 51)).alloc (.cells a 9)).alloc (.cells b 9)).alloc (.cells c 9)) w.heap.size 51 cs
    ∧ Blk ((((w.alloc (.cells cs 51)).alloc (.cells a 9)).alloc (.cells b 9)).alloc (.cells c 9)) (w.heap.size + 1) 9 a
    ∧ Blk ((((w.alloc (.cells cs 51)).alloc (.cells a 9)).alloc (.cells b 9)).alloc (.cells c 9)) (w.heap.size + 1 + 1) 9 b
    ∧ Blk ((((w.alloc (.cells cs 51)).alloc (.cells a 9)).alloc (.cells b 9)).alloc (.cells c 9)) (w.heap.size + 1 + 1 + 1) 9 c
    ∧ Below w.heap.size w ((((w.alloc (.cells cs 51)).alloc (.cells a 9)).alloc (.cells b 9)).alloc (.cells c 9)) := by
  refine ⟨(((Blk.new w 51 cs).alloc _).alloc _).alloc _, ((alloc_new w _ 9 a).alloc _).alloc _, Blk.alloc ?_ _, ?_, ((((Below.refl _ _).alloc (Nat.le_refl _) _).alloc (by simp) _).alloc (by simp; omega) _).alloc (by simp; omega) _⟩
  · have := alloc_new (w.alloc (.cells cs 51)) (.cells a 9) 9 b
    simpa using this
  · have := alloc_new ((w.alloc (.cells cs 51)).alloc (.cells a 9)) (.cells b 9) 9 c
    simpa using this
theorem any3_ok (w : World) : Calls Tryz.prog 68 #[] w fun e w' => Any3 w e w' := by
  obtain ⟨m0, n1, n2, n3, B3⟩ := any3_mem w #[.slice none 0 0, .slice none 0 0, .slice (some ⟨w.heap.size + 1, 0, none⟩) 1 1, .slice (some ⟨w.heap.size + 1 + 1, 0, none⟩) 1 1, .slice (some ⟨w.heap.size + 1 + 1 + 1, 0, none⟩) 1 1] #[.string ⟨#[42]⟩] #[.string ⟨#[42]⟩] #[.string ⟨#[42]⟩]
  have F : Hd _ := ⟨And.intro m0 (And.intro n1 (And.intro n2 (And.intro n3 B3)))⟩
  clear m0 n1 n2 n3 B3
  go_enter Tryz.func68, Tryz.ntmps68
  go_wp2_with fail
  exact bodyPost_ret (res33 _ _ w.heap.size _ _ _ _ _ rfl F.out.1) rfl ⟨⟨_, _, _, rfl, ⟨F.out.2.1, F.out.2.2.1, F.out.2.2.2.1⟩, by omega, by omega, by omega⟩, F.out.2.2.2.2⟩

/-- One more schema. -/
structure Sx (w : World) (s : Sc) (e : Ending) (w' : World) : Prop where
  ex : ∃ v', e = .returned (scV s v') ∧ RlW w.heap.size w' v' s.rules
  bel : Below w.heap.size w w'
theorem res24 (tmps : Array Value) (w : World) (r0 : Nat) (v0 v1 v2 v3 v4 : Value) (ht : tmps[0]?.getD undef = .pointer (some ⟨r0, 0, none⟩)) (h : Blk w r0 46 #[v0, v1, v2, v3, v4]) :
    (results Tryz.f42 tmps).run Tryz.prog w = .ok (.agg #[v0, v1, v2, v3, v4]) w := by
  have c0 := h.cellv 0 rfl
  have c1 := h.cellv 1 rfl
  have c2 := h.cellv 2 rfl
  have c3 := h.cellv 3 rfl
  have c4 := h.cellv 4 rfl
  simp at c0 c1 c2 c3 c4
  simp [results, Tryz.results42, go_sem, ht, c0, c1, c2, c3, c4]
/-- How the new schema's memory comes to lie: behind the rule of anything. -/
theorem sx_mem {w1 : World} {g0 : Nat} {z0 z1 z2 z3 z4 : Value} (NB : Blk w1 g0 46 #[z0, z1, z2, z3, z4]) (v0 v1 v2 v3 : Value) (q r : Array Value) (m : Array Value) :
    (∀ W, W = ((w1.alloc (.cells r 51)).alloc (.cells m 9)).alloc (.cells q 51) →
    Blk (((((W.setCell ⟨g0, 0, none⟩ v0).setCell ⟨g0, 1, none⟩ v1).setCell ⟨g0, 2, none⟩ v2).setCell ⟨g0, 3, none⟩ v3).setCell ⟨g0, 4, none⟩ (.slice (some ⟨w1.heap.size + 1 + 1, 0, none⟩) 1 1)) g0 46 #[v0, v1, v2, v3, .slice (some ⟨w1.heap.size + 1 + 1, 0, none⟩) 1 1]
    ∧ Kept (fun k => k = g0) w1 (((((W.setCell ⟨g0, 0, none⟩ v0).setCell ⟨g0, 1, none⟩ v1).setCell ⟨g0, 2, none⟩ v2).setCell ⟨g0, 3, none⟩ v3).setCell ⟨g0, 4, none⟩ (.slice (some ⟨w1.heap.size + 1 + 1, 0, none⟩) 1 1))
    ∧ Blk (((((W.setCell ⟨g0, 0, none⟩ v0).setCell ⟨g0, 1, none⟩ v1).setCell ⟨g0, 2, none⟩ v2).setCell ⟨g0, 3, none⟩ v3).setCell ⟨g0, 4, none⟩ (.slice (some ⟨w1.heap.size + 1 + 1, 0, none⟩) 1 1)) (w1.heap.size + 1) 9 m
    ∧ Blk (((((W.setCell ⟨g0, 0, none⟩ v0).setCell ⟨g0, 1, none⟩ v1).setCell ⟨g0, 2, none⟩ v2).setCell ⟨g0, 3, none⟩ v3).setCell ⟨g0, 4, none⟩ (.slice (some ⟨w1.heap.size + 1 + 1, 0, none⟩) 1 1)) (w1.heap.size + 1 + 1) 51 q) := by
  rintro W rfl
  have hlt := NB.lt
  have B0 := ((NB.alloc (.cells r 51)).alloc (.cells m 9)).alloc (.cells q 51)
  have B1 : Blk (((w1.alloc (.cells r 51)).alloc (.cells m 9)).alloc (.cells q 51)) (w1.heap.size + 1) 9 m := (alloc_new w1 _ 9 m).alloc _
  have B2 : Blk (((w1.alloc (.cells r 51)).alloc (.cells m 9)).alloc (.cells q 51)) (w1.heap.size + 1 + 1) 51 q := by
    have := alloc_new (w1.alloc (.cells r 51)) (.cells m 9) 51 q
    simpa using this
  have K0 : Kept (fun k => k = g0) w1 (((w1.alloc (.cells r 51)).alloc (.cells m 9)).alloc (.cells q 51)) := (((Kept.refl _ w1).alloc _).alloc _).alloc _
  refine ⟨?_, ((((K0.setCell _ _ (.inl rfl)).setCell _ _ (.inl rfl)).setCell _ _ (.inl rfl)).setCell _ _ (.inl rfl)).setCell _ _ (.inl rfl), ?_, ?_⟩
  · have := ((((B0.set 0 v0).set 1 v1).set 2 v2).set 3 v3).set 4 (.slice (some ⟨w1.heap.size + 1 + 1, 0, none⟩) 1 1)
    simpa using this
  · exact ((((B1.other (by simp; omega) _).other (by simp; omega) _).other (by simp; omega) _).other (by simp; omega) _).other (by simp; omega) _
  · exact ((((B2.other (by simp; omega) _).other (by simp; omega) _).other (by simp; omega) _).other (by simp; omega) _).other (by simp; omega) _
theorem one_rl {B : Nat} {w : World} {g : Nat} {q : Q5} {r : Rl} (h : Blk w g 51 #[q.v0, q.v1, q.v2, q.v3, q.v4]) (hB : B ≤ g) (hr : RuW B w q r) : RlW B w (.slice (some ⟨g, 0, none⟩) 1 1) [r] :=
  ⟨[q], rfl, ⟨rfl, .inr ⟨g, 1, _, rfl, hB, h, Nat.le_refl _, by unfold maxLen; omega, rfl, rfl⟩⟩, fun k hk hk' => by
    obtain rfl : k = 0 := by simpa using hk
    exact hr⟩
set_option maxRecDepth 20000 in
theorem scX_ok (w : World) : Calls Tryz.prog 42 #[] w fun e w' => Sx w scX e w' := by
  have NB := Blk.new w 46 #[.string ⟨#[]⟩, .string ⟨#[]⟩, .int .i64 0, .int .i64 0, .slice none 0 0]
  have AL : Hd _ := ⟨alloc_below w (.cells #[.string ⟨#[]⟩, .string ⟨#[]⟩, .int .i64 0, .int .i64 0, .slice none 0 0] 46)⟩
  have A3 := any3_ok (w.alloc (.cells #[.string ⟨#[]⟩, .string ⟨#[]⟩, .int .i64 0, .int .i64 0, .slice none 0 0] 46))
  obtain ⟨g0, hg0⟩ : ∃ g0, g0 = w.heap.size := ⟨_, rfl⟩
  rw [← hg0] at NB
  go_enter Tryz.func42, Tryz.ntmps42
  go_wp2_with fail
  go_at_call 68
  refine A3.mono ?_
  rintro e w1 ⟨⟨g1, g2, g3, rfl, ⟨b1, b2, b3⟩, l1, l2, l3⟩, bel⟩
  have N1 := NB.kept (Kept.of_below bel (fun _ => False)) id
  rw [← hg0]
  have M : Hd _ := ⟨sx_mem N1 (.string ⟨#[101, 120, 101, 109, 112, 116]⟩) (.string ⟨#[101, 120, 101, 109, 112, 116]⟩) (.int .i64 1) (.int .i64 0) #[.slice none 0 0, .slice (some ⟨w1.heap.size + 1, 0, none⟩) 1 1, .slice (some ⟨g1, 0, none⟩) 1 1, .slice (some ⟨g2, 0, none⟩) 1 1, .slice (some ⟨g3, 0, none⟩) 1 1] #[.slice none 0 0, .slice (some ⟨w1.heap.size + 1, 0, none⟩) 1 1, .slice (some ⟨g1, 0, none⟩) 1 1, .slice (some ⟨g2, 0, none⟩) 1 1, .slice (some ⟨g3, 0, none⟩) 1 1] #[.string ⟨#[115, 121, 115, 116, 101, 109, 58, 109, 97, 115, 116, 101, 114, 115]⟩] _ rfl⟩
  have N2 := ((N1.alloc (.cells #[.slice none 0 0, .slice (some ⟨w1.heap.size + 1, 0, none⟩) 1 1, .slice (some ⟨g1, 0, none⟩) 1 1, .slice (some ⟨g2, 0, none⟩) 1 1, .slice (some ⟨g3, 0, none⟩) 1 1] 51)).alloc (.cells #[.string ⟨#[115, 121, 115, 116, 101, 109, 58, 109, 97, 115, 116, 101, 114, 115]⟩] 9)).alloc (.cells #[.slice none 0 0, .slice (some ⟨w1.heap.size + 1, 0, none⟩) 1 1, .slice (some ⟨g1, 0, none⟩) 1 1, .slice (some ⟨g2, 0, none⟩) 1 1, .slice (some ⟨g3, 0, none⟩) 1 1] 51)
  have HB : Hd _ := ⟨And.intro b1 (And.intro b2 b3)⟩
  have HN : Hd _ := ⟨N1⟩
  have HL : Hd (w.heap.size + 1 ≤ g1 ∧ w.heap.size + 1 ≤ g2 ∧ w.heap.size + 1 ≤ g3) := ⟨by simpa using l1, by simpa using l2, by simpa using l3⟩
  have HG : Hd (g0 = w.heap.size ∧ Below w.heap.size w w1) := ⟨hg0, AL.out.trans (bel.mono AL.out.size)⟩
  have hlt := N1.lt
  have f0 := N2.frozen 0
  have f1 := N2.frozen 1
  have f2 := N2.frozen 2
  have f3 := N2.frozen 3
  have f4 := N2.frozen 4
  have d0 := N2.cellv (v := .string ⟨#[]⟩) 0 rfl
  have d1 := N2.cellv (v := .string ⟨#[]⟩) 1 rfl
  have d2 := N2.cellv (v := .int .i64 0) 2 rfl
  have d3 := N2.cellv (v := .int .i64 0) 3 rfl
  have d4 := N2.cellv (v := .slice none 0 0) 4 rfl
  clear b1 b2 b3 l1 l2 l3 bel A3 NB N1 N2 AL hg0
  go_wp2_with fail
  obtain ⟨m0, k0, m1, m2⟩ := M.out
  clear d0 d1 d2 d3 d4 f0 f1 f2 f3 f4
  have o9 := off_blk HN.out (by decide : 46 ≠ 9)
  have hsz : w.heap.size ≤ w1.heap.size := HG.out.2.size
  have e1 := own_one (B := w.heap.size) (HB.out.1.kept k0 (o9 _ _ HB.out.1)) (by have := HL.out; omega)
  have e2 := own_one (B := w.heap.size) (HB.out.2.1.kept k0 (o9 _ _ HB.out.2.1)) (by have := HL.out; omega)
  have e3 := own_one (B := w.heap.size) (HB.out.2.2.kept k0 (o9 _ _ HB.out.2.2)) (by have := HL.out; omega)
  have em := own_one (B := w.heap.size) m1 (by omega)
  refine bodyPost_ret (res24 _ _ g0 _ _ _ _ _ rfl m0) rfl ⟨⟨_, rfl, one_rl (q := ⟨.slice none 0 0, .slice (some ⟨w1.heap.size + 1, 0, none⟩) 1 1, .slice (some ⟨g1, 0, none⟩) 1 1, .slice (some ⟨g2, 0, none⟩) 1 1, .slice (some ⟨g3, 0, none⟩) 1 1⟩) (B := w.heap.size) m2 (by omega) ⟨own_nil _ _, em, e1, e2, e3⟩⟩, ?_⟩
  exact HG.out.2.trans (k0.below hsz (fun k hk => by rw [hk, HG.out.1]; exact Nat.le_refl _))
theorem res25 (tmps : Array Value) (w : World) (r0 : Nat) (v0 v1 v2 v3 v4 : Value) (ht : tmps[0]?.getD undef = .pointer (some ⟨r0, 0, none⟩)) (h : Blk w r0 46 #[v0, v1, v2, v3, v4]) :
    (results Tryz.f43 tmps).run Tryz.prog w = .ok (.agg #[v0, v1, v2, v3, v4]) w := by
  have c0 := h.cellv 0 rfl
  have c1 := h.cellv 1 rfl
  have c2 := h.cellv 2 rfl
  have c3 := h.cellv 3 rfl
  have c4 := h.cellv 4 rfl
  simp at c0 c1 c2 c3 c4
  simp [results, Tryz.results43, go_sem, ht, c0, c1, c2, c3, c4]
set_option maxRecDepth 20000 in
theorem scY_ok (w : World) : Calls Tryz.prog 43 #[] w fun e w' => Sx w scY e w' := by
  have NB := Blk.new w 46 #[.string ⟨#[]⟩, .string ⟨#[]⟩, .int .i64 0, .int .i64 0, .slice none 0 0]
  have AL : Hd _ := ⟨alloc_below w (.cells #[.string ⟨#[]⟩, .string ⟨#[]⟩, .int .i64 0, .int .i64 0, .slice none 0 0] 46)⟩
  have A3 := any3_ok (w.alloc (.cells #[.string ⟨#[]⟩, .string ⟨#[]⟩, .int .i64 0, .int .i64 0, .slice none 0 0] 46))
  obtain ⟨g0, hg0⟩ : ∃ g0, g0 = w.heap.size := ⟨_, rfl⟩
  rw [← hg0] at NB
  go_enter Tryz.func43, Tryz.ntmps43
  go_wp2_with fail
  go_at_call 68
  refine A3.mono ?_
  rintro e w1 ⟨⟨g1, g2, g3, rfl, ⟨b1, b2, b3⟩, l1, l2, l3⟩, bel⟩
  have N1 := NB.kept (Kept.of_below bel (fun _ => False)) id
  rw [← hg0]
  have M : Hd _ := ⟨sx_mem N1 (.string ⟨#[99, 97, 116, 99, 104, 45, 97, 108, 108]⟩) (.string ⟨#[99, 97, 116, 99, 104, 45, 97, 108, 108]⟩) (.int .i64 10000) (.int .i64 1) #[.slice (some ⟨w1.heap.size + 1, 0, none⟩) 1 1, .slice none 0 0, .slice (some ⟨g1, 0, none⟩) 1 1, .slice (some ⟨g2, 0, none⟩) 1 1, .slice (some ⟨g3, 0, none⟩) 1 1] #[.slice (some ⟨w1.heap.size + 1, 0, none⟩) 1 1, .slice none 0 0, .slice (some ⟨g1, 0, none⟩) 1 1, .slice (some ⟨g2, 0, none⟩) 1 1, .slice (some ⟨g3, 0, none⟩) 1 1] #[.string ⟨#[42]⟩] _ rfl⟩
  have N2 := ((N1.alloc (.cells #[.slice (some ⟨w1.heap.size + 1, 0, none⟩) 1 1, .slice none 0 0, .slice (some ⟨g1, 0, none⟩) 1 1, .slice (some ⟨g2, 0, none⟩) 1 1, .slice (some ⟨g3, 0, none⟩) 1 1] 51)).alloc (.cells #[.string ⟨#[42]⟩] 9)).alloc (.cells #[.slice (some ⟨w1.heap.size + 1, 0, none⟩) 1 1, .slice none 0 0, .slice (some ⟨g1, 0, none⟩) 1 1, .slice (some ⟨g2, 0, none⟩) 1 1, .slice (some ⟨g3, 0, none⟩) 1 1] 51)
  have HB : Hd _ := ⟨And.intro b1 (And.intro b2 b3)⟩
  have HN : Hd _ := ⟨N1⟩
  have HL : Hd (w.heap.size + 1 ≤ g1 ∧ w.heap.size + 1 ≤ g2 ∧ w.heap.size + 1 ≤ g3) := ⟨by simpa using l1, by simpa using l2, by simpa using l3⟩
  have HG : Hd (g0 = w.heap.size ∧ Below w.heap.size w w1) := ⟨hg0, AL.out.trans (bel.mono AL.out.size)⟩
  have hlt := N1.lt
  have f0 := N2.frozen 0
  have f1 := N2.frozen 1
  have f2 := N2.frozen 2
  have f3 := N2.frozen 3
  have f4 := N2.frozen 4
  have d0 := N2.cellv (v := .string ⟨#[]⟩) 0 rfl
  have d1 := N2.cellv (v := .string ⟨#[]⟩) 1 rfl
  have d2 := N2.cellv (v := .int .i64 0) 2 rfl
  have d3 := N2.cellv (v := .int .i64 0) 3 rfl
  have d4 := N2.cellv (v := .slice none 0 0) 4 rfl
  clear b1 b2 b3 l1 l2 l3 bel A3 NB N1 N2 AL hg0
  go_wp2_with fail
  obtain ⟨m0, k0, m1, m2⟩ := M.out
  clear d0 d1 d2 d3 d4 f0 f1 f2 f3 f4
  have o9 := off_blk HN.out (by decide : 46 ≠ 9)
  have hsz : w.heap.size ≤ w1.heap.size := HG.out.2.size
  have e1 := own_one (B := w.heap.size) (HB.out.1.kept k0 (o9 _ _ HB.out.1)) (by have := HL.out; omega)
  have e2 := own_one (B := w.heap.size) (HB.out.2.1.kept k0 (o9 _ _ HB.out.2.1)) (by have := HL.out; omega)
  have e3 := own_one (B := w.heap.size) (HB.out.2.2.kept k0 (o9 _ _ HB.out.2.2)) (by have := HL.out; omega)
  have em := own_one (B := w.heap.size) m1 (by omega)
  refine bodyPost_ret (res25 _ _ g0 _ _ _ _ _ rfl m0) rfl ⟨⟨_, rfl, one_rl (q := ⟨.slice (some ⟨w1.heap.size + 1, 0, none⟩) 1 1, .slice none 0 0, .slice (some ⟨g1, 0, none⟩) 1 1, .slice (some ⟨g2, 0, none⟩) 1 1, .slice (some ⟨g3, 0, none⟩) 1 1⟩) (B := w.heap.size) m2 (by omega) ⟨em, own_nil _ _, e1, e2, e3⟩⟩, ?_⟩
  exact HG.out.2.trans (k0.below hsz (fun k hk => by rw [hk, HG.out.1]; exact Nat.le_refl _))
end Go.Proofs.YtlkoaldekmdcoaaGreatDoor
