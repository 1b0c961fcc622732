/-
  What 'Cancel' and 'Next' of the reference answer. Conditions: as each theorem says them.
-/
import Derived.Test.YthamaiibknmeeaaRefC
namespace Go.Proofs.Ythamaiibknmeeaa
open Go.RowKit Go.Lib Go.Sort Go.Maps

/-- No two of a list have one id. -/
def Ids (K : List (Int × Int)) : Prop := K.Pairwise fun a b => a.2 ≠ b.2
theorem Ids.eq {K : List (Int × Int)} (h : Ids K) {y z : Int × Int} (hy : y ∈ K) (hz : z ∈ K) (e : y.2 = z.2) : y = z := by
  obtain ⟨i, hi, rfl⟩ := List.getElem_of_mem hy
  obtain ⟨j, hj, rfl⟩ := List.getElem_of_mem hz
  have hp := List.pairwise_iff_getElem.1 h
  rcases Nat.lt_trichotomy i j with c | c | c
  · exact absurd e (hp i j hi hj c)
  · subst c; rfl
  · exact absurd e.symm (hp j i hj hi c)
theorem Ids.erase {K : List (Int × Int)} (h : Ids K) (p : Nat) : Ids (K.eraseIdx p) := List.Pairwise.sublist (List.eraseIdx_sublist K p) h
theorem Ids.mem_erase {K : List (Int × Int)} (h : Ids K) {p : Nat} (hp : p < K.length) (y : Int × Int) : y ∈ K.eraseIdx p ↔ y ∈ K ∧ y.2 ≠ (K.getD p (0, 0)).2 := by
  have eg : K.getD p (0, 0) = K[p] := by rw [List.getD_eq_getElem?_getD, List.getElem?_eq_getElem hp]; rfl
  have e0 : K = K.take p ++ K[p] :: K.drop (p + 1) := by rw [← List.drop_eq_getElem_cons hp, List.take_append_drop]
  have hs : Ids (K.take p ++ K[p] :: K.drop (p + 1)) := by rw [← e0]; exact h
  obtain ⟨s1, s2, s3⟩ := List.pairwise_append.1 hs
  obtain ⟨s4, s5⟩ := List.pairwise_cons.1 s2
  rw [List.eraseIdx_eq_take_drop_succ, List.mem_append, eg]
  have em : y ∈ K ↔ y ∈ K.take p ∨ y = K[p] ∨ y ∈ K.drop (p + 1) := by
    have : y ∈ K ↔ y ∈ K.take p ++ K[p] :: K.drop (p + 1) := by rw [← e0]
    rw [this, List.mem_append, List.mem_cons]
  constructor
  · rintro (a | a)
    · exact ⟨em.2 (.inl a), s3 _ a _ List.mem_cons_self⟩
    · exact ⟨em.2 (.inr (.inr a)), fun e => s4 _ a e.symm⟩
  · rintro ⟨a, b⟩
    rcases em.1 a with a | a | a
    · exact .inl a
    · exact absurd (by rw [a]) b
    · exact .inr a
theorem Ids.push {K : List (Int × Int)} (h : Ids K) {x : Int × Int} (hx : ¬ ∃ y, y ∈ K ∧ y.2 = x.2) : Ids (K ++ [x]) := by
  refine List.pairwise_append.2 ⟨h, List.pairwise_singleton _ _, fun a ha b hb e => ?_⟩
  rw [List.mem_singleton] at hb
  exact hx ⟨a, ha, by rw [e, hb]⟩
theorem len_erase {K : List (Int × Int)} {p : Nat} (hp : p < K.length) : (K.eraseIdx p).length + 1 = K.length := by
  rw [List.length_eraseIdx_of_lt hp]; omega
theorem getD_mem {L : List (Int × Int)} {i : Nat} (h : i < L.length) : L.getD i (0, 0) ∈ L := by
  rw [List.getD_eq_getElem?_getD, List.getElem?_eq_getElem h]
  exact List.getElem_mem h
theorem Least.mem {K : List (Int × Int)} {p : Nat} (h : Least K K.length p) : K.getD p (0, 0) ∈ K ∧ ∀ y, y ∈ K → ¬ lt y (K.getD p (0, 0)) := by
  refine ⟨getD_mem h.1, fun y hy => ?_⟩
  obtain ⟨i, hi, e⟩ := List.getElem_of_mem hy
  have := h.2 i hi
  rw [List.getD_eq_getElem?_getD, List.getElem?_eq_getElem hi] at this
  rw [← e]
  exact this

section
variable {B : Nat} {w : World} {rb : Nat} {v : Value} {t : Int} {K : List (Int × Int)}
theorem rcancel_miss (h : Ref B w rb v t K) (id : Int) (hy : ¬ ∃ y, y ∈ K ∧ y.2 = id) : Calls Try.prog 13 #[.pointer (some ⟨rb, 0, none⟩), .int .i64 id] w fun e w' => e = .returned (.int .i64 6) ∧ w' = w := by
  have c1 := h.c1
  have hn := h.maxLen_le
  obtain ⟨a, cap, rfl, hr, _⟩ := h.own.form
  have F := rfind_miss a _ cap _ id w hr hn (no_place K id hy)
  clear h hr hy
  go_enter Try.func13, Try.ntmps13
  go_wp2_with (go_at_call 24; refine F.mono ?_; rintro e w' ⟨rfl, hw⟩; obtain rfl := hw.symm)
  go_ret
  exact ⟨rfl, rfl⟩
theorem rcancel_hit (h : Ref B w rb v t K) (hB : B ≤ w.heap.size) (id : Int) (hy : ∃ y, y ∈ K ∧ y.2 = id) : Calls Try.prog 13 #[.pointer (some ⟨rb, 0, none⟩), .int .i64 id] w fun e w' => e = .returned (.int .i64 0) ∧
    ∃ v' p, (p < K.length ∧ (K.getD p (0, 0)).2 = id) ∧ Ref B w' rb v' t (K.eraseIdx p) ∧ Kept (Of rb v) w w' ∧ ∀ g, v'.ownBlock = some g → v.ownBlock = some g ∨ w.heap.size ≤ g := by
  have c1 := h.c1
  have hn := h.maxLen_le
  have hn2 := h.n
  obtain ⟨p, hp, e1, e2⟩ := first_place K id hy
  have WI := without_any K w h.own hn2 p hp
  obtain ⟨a, cap, rfl, hr, _⟩ := h.own.form
  have F := rfind_hit a _ cap _ id w hr hn p hp e1 e2
  have hp0 : ¬ (p : Int) < 0 := by omega
  clear hr e2 hy
  go_enter Try.func13, Try.ntmps13
  go_wp2_with fail
  go_at_call 24
  refine F.mono ?_
  rintro e w' ⟨rfl, hw⟩
  obtain rfl := hw.symm
  go_wp2_with fail
  go_at_call 26
  refine WI.mono ?_
  rintro e w2 ⟨v2, rfl, D2, b2⟩
  have k2 : Kept (fun j => (Value.slice a K.length cap).ownBlock = some j) w w2 := Kept.of_below b2 _
  have hv : ∀ g, v2.ownBlock = some g → (Value.slice a K.length cap).ownBlock = some g ∨ w.heap.size ≤ g := fun g e => .inr (World.ownsRow.lt D2 g e).1
  have hlen := len_erase hp
  obtain ⟨q1, q2⟩ := h.stored k2 (D2.mono hB) hv (by omega)
  have nr : ¬ (Value.slice a K.length cap).ownBlock = some rb := fun e => h.ne rb e rfl
  have r1 := (k2.cell (o := 1) h.lt nr).trans c1
  have r2 := (k2.frozen (o := 1) h.lt nr).trans h.f1
  have e1' : Hid ((K.getD p (0, 0)).2 = id) := e1
  obtain ⟨a2, cap2, rfl, _⟩ := D2.form
  clear WI F h D2 k2 b2 hlen e1
  go_wp2
  go_ret
  exact ⟨rfl, _, p, ⟨hp, e1'.out⟩, q1, q2, hv⟩

theorem rnext_none (h : Ref B w rb v t []) : Calls Try.prog 18 #[.pointer (some ⟨rb, 0, none⟩)] w fun e w' => e = .returned (.tuple #[vD (0, 0), .bool false]) ∧ Below w.heap.size w w' := by
  have b1 : Below w.heap.size w (w.alloc (.cells #[.int .i64 0, .int .i64 0] 43)) := (Below.refl _ _).alloc (Nat.le_refl _) _
  have F := first_none (h.below b1)
  unfold vD
  clear h
  go_enter Try.func18, Try.ntmps18
  go_wp2_with (go_at_call 28; refine F.mono ?_; rintro e w' ⟨rfl, hw⟩; obtain rfl := hw.symm)
  exact bodyPost_ret (v := .tuple #[.agg #[.int .i64 0, .int .i64 0], .bool false]) (by simp [results, Try.results18, go_sem]) rfl ⟨rfl, b1⟩
theorem rnext_some (h : Ref B w rb v t K) (hK : 0 < K.length) : Calls Try.prog 18 #[.pointer (some ⟨rb, 0, none⟩)] w fun e w' => ∃ x, e = .returned (.tuple #[vD x, .bool true]) ∧ (x ∈ K ∧ ∀ y, y ∈ K → ¬ lt y x) ∧ Below w.heap.size w w' := by
  have b1 : Below w.heap.size w (w.alloc (.cells #[.int .i64 0, .int .i64 0] 43)) := (Below.refl _ _).alloc (Nat.le_refl _) _
  have h1 := h.below b1
  have F := first_some h1 hK
  have hn := h.n
  unfold vD
  go_enter Try.func18, Try.ntmps18
  go_wp2_with fail
  go_at_call 28
  refine F.mono ?_
  rintro e w2 ⟨p, rfl, hp, b2⟩
  have hpl := hp.1
  obtain ⟨a, cap, rfl, _⟩ := h1.own.form
  obtain ⟨g, rfl, hc⟩ := h1.own.at hpl
  have hg := World.block_lt_of_cell? _ _ (hc p hpl).1
  have hx := hp.mem
  have d0 : w2.cell? ⟨g, p * 2, none⟩ = some (.int .i64 (K.getD p (0, 0)).2) := (b2.cell (p := ⟨g, p * 2, none⟩) hg).trans (hc p hpl).1
  have d1 : w2.cell? ⟨g, p * 2 + 1, none⟩ = some (.int .i64 (K.getD p (0, 0)).1) := (b2.cell (p := ⟨g, p * 2 + 1, none⟩) hg).trans (hc p hpl).2
  generalize K.getD p (0, 0) = x at *
  have c1 := (b2.cell (p := ⟨rb, 1, none⟩) h1.lt).trans h1.c1
  have bz0 : w2.cell? ⟨w.heap.size, 0, none⟩ = some (.int .i64 0) := (b2.cell (p := ⟨w.heap.size, 0, none⟩) (by simp)).trans (by simp [go_sem])
  have bz1 : w2.cell? ⟨w.heap.size, 1, none⟩ = some (.int .i64 0) := (b2.cell (p := ⟨w.heap.size, 1, none⟩) (by simp)).trans (by simp [go_sem])
  have bf0 : w2.frozen? ⟨w.heap.size, 0, none⟩ = false := (b2.frozen (p := ⟨w.heap.size, 0, none⟩) (by simp)).trans (by simp [go_sem])
  have bf1 : w2.frozen? ⟨w.heap.size, 1, none⟩ = false := (b2.frozen (p := ⟨w.heap.size, 1, none⟩) (by simp)).trans (by simp [go_sem])
  have b3 : Below w.heap.size w w2 := b1.trans (b2.mono b1.size)
  have i1 : (p : Int) < (K.length : Int) := by omega
  have i2 : ¬ (p : Int) < 0 := by omega
  clear F h h1 hc hp b1 b2
  go_wp2
  refine bodyPost_ret (v := .tuple #[.agg #[.int .i64 x.2, .int .i64 x.1], .bool true]) (by simp [results, Try.results18, go_sem, bz0, bz1]) rfl ?_
  exact ⟨x, rfl, hx, (b3.setCell (p := ⟨w.heap.size, 0, none⟩) (Nat.le_refl _) _).setCell (p := ⟨w.heap.size, 1, none⟩) (Nat.le_refl _) _⟩

theorem Ref.setNow (h : Ref B w rb v t K) (to : Int) : Ref B (w.setCell ⟨rb, 0, none⟩ (.int .i64 to)) rb v to K := by
  have k : Kept (fun j => j = rb) w (w.setCell ⟨rb, 0, none⟩ (.int .i64 to)) := (Kept.refl _ w).setCell _ _ rfl
  have c0 := h.c0
  have c1 := h.c1
  have f0 := h.f0
  have f1 := h.f1
  refine ⟨by simpa using h.lt, h.hB, ?_, ?_, ?_, ?_, h.own.kept k fun g e => h.ne g e, h.ne, h.n⟩
  · simp [go_sem, c0]
  · simp [go_sem, c1]
  · simp [go_sem, f0]
  · simp [go_sem, f1]
theorem radvance_early (h : Ref B w rb v t K) (to : Int) (c : to < t) : Calls Try.prog 15 #[.pointer (some ⟨rb, 0, none⟩), .int .i64 to] w fun e w' => e = .returned (.tuple #[.slice none 0 0, .int .i64 1]) ∧ w' = w := by
  have c0 := h.c0
  clear h
  go_enter Try.func15, Try.ntmps15
  go_wp2
  go_ret2
  exact ⟨rfl, rfl⟩
theorem radvance_late (h : Ref B w rb v t K) (to : Int) (c : t ≤ to) (c2 : 1099511627776 < to) : Calls Try.prog 15 #[.pointer (some ⟨rb, 0, none⟩), .int .i64 to] w fun e w' => e = .returned (.tuple #[.slice none 0 0, .int .i64 1]) ∧ w' = w := by
  have c0 := h.c0
  clear h
  go_enter Try.func15, Try.ntmps15
  go_wp2
  go_ret2
  exact ⟨rfl, rfl⟩
end
end Go.Proofs.Ythamaiibknmeeaa
