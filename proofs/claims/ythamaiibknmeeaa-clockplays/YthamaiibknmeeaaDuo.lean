/-
  The program's clock and the reference's beside each other, both of the same dues. Conditions: as each theorem says them.
-/
import Derived.Test.YthamaiibknmeeaaRefE
namespace Go.Proofs.Ythamaiibknmeeaa
open Go.RowKit Go.Lib Go.Sort Go.Maps

/-- The list K has just the n of M. -/
structure Agree (M : Int × Int → Prop) (n : Nat) (K : List (Int × Int)) : Prop where
  mem : ∀ y, M y ↔ y ∈ K
  len : n = K.length
  ids : Ids K

/-- The blocks of the reference's clock are its old ones, or new. -/
def Fresh (w : World) (v v' : Value) : Prop := ∀ g, v'.ownBlock = some g → v.ownBlock = some g ∨ w.heap.size ≤ g

section
variable {B : Nat} {w : World} {rb : Nat} {v : Value} {t : Int} {K : List (Int × Int)} {M : Int × Int → Prop} {n : Nat}
theorem rset_any (h : Ref B w rb v t K) (hB : B ≤ w.heap.size) (ag : Agree M n K) (id at_ : Int) : Calls Try.prog 11 #[.pointer (some ⟨rb, 0, none⟩), .int .i64 id, .int .i64 at_] w fun e w' => e = .returned (.int .i64 (setC t M n id at_)) ∧
    ∃ v' K', Ref B w' rb v' t K' ∧ Agree (setM t M n id at_) (setN t M n id at_) K' ∧ Kept (Of rb v) w w' ∧ Fresh w v v' := by
  have hex : (∃ y, M y ∧ y.2 = id) ↔ ∃ y, y ∈ K ∧ y.2 = id := exists_congr fun y => and_congr_left fun _ => ag.mem y
  have stay : setC t M n id at_ ≠ 0 → ∃ v' K', Ref B w rb v' t K' ∧ Agree (setM t M n id at_) (setN t M n id at_) K' ∧ Kept (Of rb v) w w ∧ Fresh w v v' := by
    intro hc
    refine ⟨v, K, h, ⟨fun y => ?_, ?_, ag.ids⟩, Kept.refl _ _, fun g e => .inl e⟩
    · rw [← ag.mem]
      exact ⟨fun e => e.elim (fun e => absurd e.1 hc) (fun a => a), .inr⟩
    · unfold setN
      rw [if_neg hc]
      exact ag.len
  by_cases d1 : at_ ≤ t
  · have e : setC t M n id at_ = 1 := if_pos (.inl d1)
    refine (rset_early h id at_ d1).mono ?_
    rintro e1 w' ⟨rfl, rfl⟩
    exact ⟨by rw [e], stay (by omega)⟩
  by_cases d2 : 1099511627776 < at_
  · have e : setC t M n id at_ = 1 := if_pos (.inr d2)
    refine (rset_late h id at_ (by omega) d2).mono ?_
    rintro e1 w' ⟨rfl, rfl⟩
    exact ⟨by rw [e], stay (by omega)⟩
  have d3 : ¬ (at_ ≤ t ∨ 1099511627776 < at_) := by omega
  by_cases d4 : ∃ y, M y ∧ y.2 = id
  · have e : setC t M n id at_ = 5 := by unfold setC; rw [if_neg d3, if_pos d4]
    refine (rset_twice h id at_ (by omega) (by omega) (hex.1 d4)).mono ?_
    rintro e1 w' ⟨rfl, rfl⟩
    exact ⟨by rw [e], stay (by omega)⟩
  have d5 : ¬ ∃ y, y ∈ K ∧ y.2 = id := fun e => d4 (hex.2 e)
  by_cases d6 : 4096 ≤ n
  · have e : setC t M n id at_ = 7 := by unfold setC; rw [if_neg d3, if_neg d4, if_pos d6]
    refine (rset_full h id at_ (by omega) (by omega) d5 (by rw [← ag.len]; exact d6)).mono ?_
    rintro e1 w' ⟨rfl, rfl⟩
    exact ⟨by rw [e], stay (by omega)⟩
  · have e : setC t M n id at_ = 0 := by unfold setC; rw [if_neg d3, if_neg d4, if_neg d6]
    have hl := ag.len
    refine (rset_ok h id at_ (by omega) (by omega) d5 (by omega) hB).mono ?_
    rintro e1 w' ⟨rfl, v', r, k, f⟩
    refine ⟨by rw [e], v', _, r, ⟨fun y => ?_, ?_, ag.ids.push d5⟩, k, f⟩
    · rw [List.mem_append, List.mem_singleton, ← ag.mem]
      exact ⟨fun a => a.elim (fun a => .inr a.2) .inl, fun a => a.elim .inr (fun a => .inl ⟨e, a⟩)⟩
    · unfold setN
      rw [if_pos e, List.length_append]
      simp
      exact hl

theorem rcancel_any (h : Ref B w rb v t K) (hB : B ≤ w.heap.size) (ag : Agree M n K) (id : Int) : Calls Try.prog 13 #[.pointer (some ⟨rb, 0, none⟩), .int .i64 id] w fun e w' => e = .returned (.int .i64 (if has M id = 1 then 0 else 6)) ∧
    ∃ v' K', Ref B w' rb v' t K' ∧ Agree (fun y => M y ∧ y.2 ≠ id) (n - has M id) K' ∧ Kept (Of rb v) w w' ∧ Fresh w v v' := by
  have hex : (∃ y, M y ∧ y.2 = id) ↔ ∃ y, y ∈ K ∧ y.2 = id := exists_congr fun y => and_congr_left fun _ => ag.mem y
  by_cases c : ∃ y, M y ∧ y.2 = id
  · rw [has_one c, if_pos rfl]
    refine (rcancel_hit h hB id (hex.1 c)).mono ?_
    rintro e w' ⟨rfl, v', p, ⟨hp, ep⟩, r, k, f⟩
    have hl := ag.len
    have hl2 := len_erase hp
    refine ⟨rfl, v', _, r, ⟨fun y => ?_, by omega, ag.ids.erase p⟩, k, f⟩
    rw [ag.ids.mem_erase hp, ep, ag.mem]
  · rw [has_none c, if_neg (by decide)]
    refine (rcancel_miss h id (fun e => c (hex.2 e))).mono ?_
    rintro e w' ⟨rfl, rfl⟩
    refine ⟨rfl, v, K, h, ⟨fun y => ?_, ag.len, ag.ids⟩, Kept.refl _ _, fun g e => .inl e⟩
    rw [← ag.mem]
    exact ⟨fun a => a.1, fun a => ⟨a, fun e => c ⟨y, a, e⟩⟩⟩

theorem radvance_any (h : Ref B w rb v t K) (hB : B ≤ w.heap.size) (ag : Agree M n K) (to : Int) (c : t ≤ to) (c2 : to ≤ 1099511627776) : Calls Try.prog 15 #[.pointer (some ⟨rb, 0, none⟩), .int .i64 to] w fun e w' =>
    ∃ out L v' K', e = .returned (.tuple #[out, .int .i64 0]) ∧ DOwn w.heap.size w' out L ∧ ListOf L (fun y => M y ∧ y.1 ≤ to) ∧ Ref B w' rb v' to K' ∧ Agree (fun y => M y ∧ to < y.1) (n - L.length) K' ∧ Kept (Of rb v) w w' ∧ Fresh w v v' := by
  refine (radvance_ok h hB ag.ids to c c2).mono ?_
  rintro e w' ⟨out, L, v', K', rfl, MM, hall⟩
  obtain ⟨q1, q2⟩ := MM.told.done hall
  have hl := ag.len
  have hl2 := MM.len
  refine ⟨out, L, v', K', rfl, MM.own, ⟨q1.1, fun y => (q1.2 y).trans (and_congr_left fun _ => (ag.mem y).symm)⟩, MM.ref, ⟨fun y => ?_, by omega, MM.ids⟩, MM.kept, MM.hv⟩
  exact (and_congr_left fun _ => ag.mem y).trans (q2 y)

theorem rnext_any (h : Ref B w rb v t K) (ag : Agree M n K) : Calls Try.prog 18 #[.pointer (some ⟨rb, 0, none⟩)] w fun e w' => ∃ x b, e = .returned (.tuple #[vD x, .bool b]) ∧ ((n = 0 ∧ x = (0, 0) ∧ b = false) ∨ (0 < n ∧ b = true ∧ M x ∧ ∀ y, M y → ¬ lt y x)) ∧ Below w.heap.size w w' := by
  have hl := ag.len
  rcases Nat.eq_zero_or_pos K.length with c | c
  · obtain rfl := List.length_eq_zero_iff.1 c
    refine (rnext_none h).mono ?_
    rintro e w' ⟨rfl, b⟩
    exact ⟨(0, 0), false, rfl, .inl ⟨hl, rfl, rfl⟩, b⟩
  · refine (rnext_some h c).mono ?_
    rintro e w' ⟨x, rfl, ⟨hx1, hx2⟩, b⟩
    exact ⟨x, true, rfl, .inr ⟨by omega, rfl, (ag.mem x).2 hx1, fun y hy => hx2 y ((ag.mem y).1 hy)⟩, b⟩
theorem next_any {cb : Nat} {S : Nat → Prop} (h : Clk w cb S t M n) : Calls Try.prog 17 #[.pointer (some ⟨cb, 0, none⟩)] w fun e w' => ∃ x b, e = .returned (.tuple #[vD x, .bool b]) ∧ ((n = 0 ∧ x = (0, 0) ∧ b = false) ∨ (0 < n ∧ b = true ∧ M x ∧ ∀ y, M y → ¬ lt y x)) ∧ Below w.heap.size w w' := by
  rcases Nat.eq_zero_or_pos n with c | c
  · subst c
    refine (next_none h).mono ?_
    rintro e w' ⟨rfl, b⟩
    exact ⟨(0, 0), false, rfl, .inl ⟨rfl, rfl, rfl⟩, b⟩
  · refine (next_some h c).mono ?_
    rintro e w' ⟨x, rfl, ⟨hx1, hx2⟩, b⟩
    exact ⟨x, true, rfl, .inr ⟨c, rfl, hx1, hx2⟩, b⟩
theorem next_same {x x' : Int × Int} {b b' : Bool} (h : (n = 0 ∧ x = (0, 0) ∧ b = false) ∨ (0 < n ∧ b = true ∧ M x ∧ ∀ y, M y → ¬ lt y x)) (k : (n = 0 ∧ x' = (0, 0) ∧ b' = false) ∨ (0 < n ∧ b' = true ∧ M x' ∧ ∀ y, M y → ¬ lt y x')) : x' = x ∧ b' = b := by
  rcases h with ⟨h1, rfl, rfl⟩ | ⟨h1, rfl, h2⟩
  · rcases k with ⟨_, rfl, rfl⟩ | ⟨k1, _⟩
    · exact ⟨rfl, rfl⟩
    · omega
  · rcases k with ⟨k1, _⟩ | ⟨_, rfl, k2⟩
    · omega
    · exact ⟨least_unique k2 h2, rfl⟩
end

/-- The two clocks, apart from each other, from B on. -/
structure Duo (B : Nat) (w : World) (cb : Nat) (S : Nat → Prop) (t : Int) (M : Int × Int → Prop) (n : Nat) (rb : Nat) (v : Value) (t' : Int) (K : List (Int × Int)) : Prop where
  hB : B ≤ w.heap.size
  c : Clk w cb S t M n
  r : Ref B w rb v t' K
  cB : ∀ k, S k → B ≤ k
  nr : ¬ S rb
  nv : ∀ g, v.ownBlock = some g → ¬ S g

section
variable {B : Nat} {w w' : World} {cb : Nat} {S : Nat → Prop} {t t' : Int} {M M' : Int × Int → Prop} {n n' : Nat} {rb : Nat} {v : Value} {K : List (Int × Int)}
theorem Duo.below (h : Duo B w cb S t M n rb v t' K) (b : Below w.heap.size w w') : Duo B w' cb S t M n rb v t' K := ⟨Nat.le_trans h.hB b.size, h.c.below b, h.r.below b, h.cB, h.nr, h.nv⟩
/-- The program's clock was written. -/
theorem Duo.wrote (h : Duo B w cb S t M n rb v t' K) {S' : Nat → Prop} {t2 : Int} (c : Clk w' cb S' t2 M' n') (k : Kept S w w') (hS : ∀ j, S' j → S j ∨ w.heap.size ≤ j) : Duo B w' cb S' t2 M' n' rb v t' K ∧ Below B w w' := by
  have b := k.below h.hB h.cB
  refine ⟨⟨Nat.le_trans h.hB b.size, c, h.r.kept k h.nr h.nv, fun j hj => ?_, fun hj => ?_, fun g e hj => ?_⟩, b⟩
  · rcases hS j hj with e | e
    · exact h.cB j e
    · exact Nat.le_trans h.hB e
  · rcases hS _ hj with e | e
    · exact h.nr e
    · have := h.r.lt; omega
  · rcases hS _ hj with e' | e'
    · exact h.nv g e e'
    · have := (World.ownsRow.lt h.r.own g e).2; omega
/-- The reference's clock was written. -/
theorem Duo.wroteR (h : Duo B w cb S t M n rb v t' K) {v' : Value} {t2 : Int} {K' : List (Int × Int)} (r : Ref B w' rb v' t2 K') (k : Kept (Of rb v) w w') (f : Fresh w v v') : Duo B w' cb S t M n rb v' t2 K' ∧ Below B w w' := by
  have hof : ∀ j, S j → ¬ Of rb v j := by
    rintro j hj (e | e)
    · exact h.nr (e ▸ hj)
    · exact h.nv j e hj
  have b : Below B w w' := k.below h.hB (by
    rintro j (e | e)
    · rw [e]; exact h.r.hB
    · exact (World.ownsRow.lt h.r.own j e).1)
  refine ⟨⟨Nat.le_trans h.hB b.size, h.c.kept k hof, r, h.cB, h.nr, fun g e hj => ?_⟩, b⟩
  rcases f g e with a | a
  · exact h.nv g a hj
  · have := h.c.lt g hj; omega
end
end Go.Proofs.Ythamaiibknmeeaa
