/-
  What 'Set', 'Cancel' and 'Next' of the reference answer. Conditions: as each theorem says them.
-/
import Derived.Test.YthamaiibknmeeaaRefB
namespace Go.Proofs.Ythamaiibknmeeaa
open Go.RowKit Go.Lib Go.Sort Go.Maps

/-- The blocks of the reference's clock. -/
def Of (rb : Nat) (v : Value) : Nat → Prop := fun k => k = rb ∨ v.ownBlock = some k

section
variable {B : Nat} {w : World} {rb : Nat} {v : Value} {t : Int} {K : List (Int × Int)}

theorem Ref.maxLen_le (h : Ref B w rb v t K) : K.length ≤ 9223372036854775806 := by have := h.n; omega

/-- The list is put in the place of another one. -/
theorem Ref.stored {w' : World} {v' : Value} {K' : List (Int × Int)} (h : Ref B w rb v t K) (k : Kept (fun j => v.ownBlock = some j) w w') (D : DOwn B w' v' K') (hv : ∀ g, v'.ownBlock = some g → v.ownBlock = some g ∨ w.heap.size ≤ g) (hn : K'.length ≤ 4096) :
    Ref B (w'.setCell ⟨rb, 1, none⟩ v') rb v' t K' ∧ Kept (Of rb v) w (w'.setCell ⟨rb, 1, none⟩ v') := by
  have hl := Nat.lt_of_lt_of_le h.lt k.size
  have nr : ¬ v.ownBlock = some rb := fun e => h.ne rb e rfl
  have c0 := (k.cell (o := 0) h.lt nr).trans h.c0
  have c1 := (k.cell (o := 1) h.lt nr).trans h.c1
  have f0 := (k.frozen (o := 0) h.lt nr).trans h.f0
  have f1 := (k.frozen (o := 1) h.lt nr).trans h.f1
  have ne' : ∀ g, v'.ownBlock = some g → g ≠ rb := by
    intro g e e'
    rcases hv g e with a | a
    · exact h.ne g a e'
    · have := h.lt; omega
  have k1 : Kept (fun j => j = rb) w' (w'.setCell ⟨rb, 1, none⟩ v') := (Kept.refl _ w').setCell _ _ rfl
  refine ⟨⟨by simpa using hl, h.hB, ?_, ?_, ?_, ?_, D.kept k1 fun g e => ne' g e, ne', hn⟩, (k.mono fun j _ hj => .inr hj).then k1 fun j _ hj => .inl hj⟩
  · simp [go_sem, c0]
  · simp [go_sem, c1]
  · simp [go_sem, f0]
  · simp [go_sem, f1]

theorem rset_early (h : Ref B w rb v t K) (id at_ : Int) (c : at_ ≤ t) : Calls Try.prog 11 #[.pointer (some ⟨rb, 0, none⟩), .int .i64 id, .int .i64 at_] w fun e w' => e = .returned (.int .i64 1) ∧ w' = w := by
  have c0 := h.c0
  clear h
  go_enter Try.func11, Try.ntmps11
  go_wp2
  go_ret
  exact ⟨rfl, rfl⟩
theorem rset_late (h : Ref B w rb v t K) (id at_ : Int) (c : t < at_) (c2 : 1099511627776 < at_) : Calls Try.prog 11 #[.pointer (some ⟨rb, 0, none⟩), .int .i64 id, .int .i64 at_] w fun e w' => e = .returned (.int .i64 1) ∧ w' = w := by
  have c0 := h.c0
  clear h
  go_enter Try.func11, Try.ntmps11
  go_wp2
  go_ret
  exact ⟨rfl, rfl⟩

/-- The first place of an id. -/
theorem first_place (K : List (Int × Int)) (id : Int) (h : ∃ y, y ∈ K ∧ y.2 = id) : ∃ p, p < K.length ∧ (K.getD p (0, 0)).2 = id ∧ ∀ k, k < p → (K.getD k (0, 0)).2 ≠ id := by
  obtain ⟨y, hy, e⟩ := h
  have ex : ∃ p, p < K.length ∧ (K.getD p (0, 0)).2 = id := by
    obtain ⟨i, hi, e'⟩ := List.getElem_of_mem hy
    exact ⟨i, hi, by rw [List.getD_eq_getElem?_getD, List.getElem?_eq_getElem hi]; simp [e', e]⟩
  obtain ⟨p, hp⟩ := ex
  induction p using Nat.strongRecOn with
  | _ p ih =>
    by_cases c : ∃ k, k < p ∧ (K.getD k (0, 0)).2 = id
    · obtain ⟨k, hk, e⟩ := c
      exact ih k hk ⟨by omega, e⟩
    · exact ⟨p, hp.1, hp.2, fun k hk e => c ⟨k, hk, e⟩⟩
theorem no_place (K : List (Int × Int)) (id : Int) (h : ¬ ∃ y, y ∈ K ∧ y.2 = id) : ∀ k, k < K.length → (K.getD k (0, 0)).2 ≠ id := by
  intro k hk e
  refine h ⟨K.getD k (0, 0), ?_, e⟩
  rw [List.getD_eq_getElem?_getD, List.getElem?_eq_getElem hk]
  exact List.getElem_mem hk

theorem rset_twice (h : Ref B w rb v t K) (id at_ : Int) (c : t < at_) (c2 : at_ ≤ 1099511627776) (hy : ∃ y, y ∈ K ∧ y.2 = id) : Calls Try.prog 11 #[.pointer (some ⟨rb, 0, none⟩), .int .i64 id, .int .i64 at_] w fun e w' => e = .returned (.int .i64 5) ∧ w' = w := by
  have c0 := h.c0
  have c1 := h.c1
  have hn := h.maxLen_le
  obtain ⟨p, hp, e1, e2⟩ := first_place K id hy
  obtain ⟨a, cap, rfl, hr, _⟩ := h.own.form
  have F := rfind_hit a _ cap _ id w hr hn p hp e1 e2
  have hp0 : (0 : Int) ≤ (p : Int) := by omega
  clear h hr e1 e2 hy
  go_enter Try.func11, Try.ntmps11
  go_wp2_with (go_at_call 24; refine F.mono ?_; rintro e w' ⟨rfl, hw⟩; obtain rfl := hw.symm)
  go_ret
  exact ⟨rfl, rfl⟩
theorem rset_full (h : Ref B w rb v t K) (id at_ : Int) (c : t < at_) (c2 : at_ ≤ 1099511627776) (hy : ¬ ∃ y, y ∈ K ∧ y.2 = id) (hf : 4096 ≤ K.length) : Calls Try.prog 11 #[.pointer (some ⟨rb, 0, none⟩), .int .i64 id, .int .i64 at_] w fun e w' => e = .returned (.int .i64 7) ∧ w' = w := by
  have c0 := h.c0
  have c1 := h.c1
  have hn := h.maxLen_le
  obtain ⟨a, cap, rfl, hr, _⟩ := h.own.form
  have F := rfind_miss a _ cap _ id w hr hn (no_place K id hy)
  have hf' : (4096 : Int) ≤ (K.length : Int) := by omega
  clear h hr hy
  go_enter Try.func11, Try.ntmps11
  go_wp2_with (go_at_call 24; refine F.mono ?_; rintro e w' ⟨rfl, hw⟩; obtain rfl := hw.symm)
  go_ret
  exact ⟨rfl, rfl⟩
theorem Ref.pushed (h : Ref B w rb v t K) (hf : K.length < 4096) {id at_ : Int} {w5 : World} {g' c' : Nat} (hg : (w.alloc (.cells #[.int .i64 id, .int .i64 at_] 43)).grownBy w5 v.ownBlock) (hown : w5.ownsRow B 43 2 (.slice (some ⟨g', 0, none⟩) (K.length + 1) c') (K.length + 1) (dcl K ++ dcl [(at_, id)])) (hat : v.ownBlock = some g' ∨ g' = w.heap.size + 1) :
      (w5.cell? ⟨rb, 1, none⟩ = some v ∧ w5.frozen? ⟨rb, 1, none⟩ = false) ∧ Ref B (w5.setCell ⟨rb, 1, none⟩ (.slice (some ⟨g', 0, none⟩) (K.length + 1) c')) rb (.slice (some ⟨g', 0, none⟩) (K.length + 1) c') t (K ++ [(at_, id)]) ∧ Kept (Of rb v) w (w5.setCell ⟨rb, 1, none⟩ (.slice (some ⟨g', 0, none⟩) (K.length + 1) c')) ∧
        ∀ g, (Value.slice (some ⟨g', 0, none⟩) (K.length + 1) c').ownBlock = some g → v.ownBlock = some g ∨ w.heap.size ≤ g := by
  have k5 : Kept (fun j => v.ownBlock = some j) w w5 := ((Kept.refl _ w).alloc _).trans (Kept.of_grown hg fun j e => e)
  have hv : ∀ g, (Value.slice (some ⟨g', 0, none⟩) (K.length + 1) c').ownBlock = some g → v.ownBlock = some g ∨ w.heap.size ≤ g := by
    intro g e
    obtain rfl : g' = g := by simpa [Value.ownBlock] using e
    rcases hat with e | e
    · exact .inl e
    · exact .inr (by omega)
  have D5 : DOwn B w5 (.slice (some ⟨g', 0, none⟩) (K.length + 1) c') (K ++ [(at_, id)]) := by
    show w5.ownsRow _ _ _ _ _ _
    rw [List.length_append, dcl_append]
    exact hown
  obtain ⟨q1, q2⟩ := h.stored k5 D5 hv (by simp; omega)
  have nr : ¬ v.ownBlock = some rb := fun e => h.ne rb e rfl
  exact ⟨⟨(k5.cell h.lt nr).trans h.c1, (k5.frozen h.lt nr).trans h.f1⟩, q1, q2, hv⟩
set_option maxRecDepth 20000 in
set_option maxHeartbeats 1000000 in
theorem rset_ok (h : Ref B w rb v t K) (id at_ : Int) (c : t < at_) (c2 : at_ ≤ 1099511627776) (hy : ¬ ∃ y, y ∈ K ∧ y.2 = id) (hf : K.length < 4096) (hB : B ≤ w.heap.size) : Calls Try.prog 11 #[.pointer (some ⟨rb, 0, none⟩), .int .i64 id, .int .i64 at_] w fun e w' => e = .returned (.int .i64 0) ∧
    ∃ v', Ref B w' rb v' t (K ++ [(at_, id)]) ∧ Kept (Of rb v) w w' ∧ ∀ g, v'.ownBlock = some g → v.ownBlock = some g ∨ w.heap.size ≤ g := by
  obtain ⟨i0, hi, hz0, hz1, hz2⟩ := info_parts Try.info43
  have c0 := h.c0
  have c1 := h.c1
  have f1 := h.f1
  have hl := h.lt
  have hn := h.maxLen_le
  obtain ⟨a, cap, rfl, hr, _⟩ := h.own.form
  have F := rfind_miss a _ cap _ id w hr hn (no_place K id hy)
  have hf' : ¬ (4096 : Int) ≤ (K.length : Int) := by omega
  have DN := due_new w (at_, id)
  have D4 : (w.alloc (.cells #[.int .i64 id, .int .i64 at_] 43)).ownsRow B 43 2 (.slice a K.length cap) K.length (dcl K) := World.ownsRow.alloc h.own _
  clear hr hy
  go_enter Try.func11, Try.ntmps11
  go_wp2_with (first
    | (go_at_call 24; refine F.mono ?_; rintro e w' ⟨rfl, hw⟩; obtain rfl := hw.symm)
    | (at_builtin; refine wpList_append_lies _ rfl (.tmp 34) (.tmp 38) 26 rfl B 43 i0 (.agg #[.int .i64 0, .int .i64 0]) 2 16 Try.underlying26 hi hz0 hz1 hz2 rfl (by decide) (.slice a K.length cap) K.length (dcl K) rfl D4 ⟨w.heap.size, 0, none⟩ 1 1 (dcl [(at_, id)]) rfl rfl DN (dcl_one _) (by decide) (by unfold maxLen; omega) (by omega) (by simp; omega) (w.heap.size + 1) (by simp) ?_; intro g' c' w5 hown' hgrow hat hlt'; obtain ⟨⟨r1, r2⟩, R5, k5, v5⟩ := h.pushed hf hgrow hown' hat; clear hown' hgrow hat hlt'))
  go_ret
  exact ⟨rfl, _, R5, k5, v5⟩
end
end Go.Proofs.Ythamaiibknmeeaa
