/-
  A clock in memory; what 'New', 'Now', 'Left', 'Set', 'Cancel' and 'Next' of the program answer of it, and of nil. Conditions: as each theorem says them.
-/
import Derived.Test.YthamaiibknmeeaaDues
import Derived.Test.YthamaiibknmeeaaWalkJ
namespace Go.Proofs.Ythamaiibknmeeaa
open Go.RowKit Go.Lib Go.Sort Go.Maps

/-- The clock in block cb, whose blocks are those of S: its moment is t, and just the n of M are to be due. -/
structure Clk (w : World) (cb : Nat) (S : Nat → Prop) (t : Int) (M : Int × Int → Prop) (n : Nat) : Prop where
  lt : ∀ k, S k → k < w.heap.size
  own : S cb
  now : w.cell? ⟨cb, 0, none⟩ = some (.int .i64 t)
  free : w.frozen? ⟨cb, 0, none⟩ = false
  t0 : 0 ≤ t
  t1 : t ≤ 1099511627776
  due : ∀ y, M y → 0 ≤ y.1 ∧ y.1 ≤ 1099511627776
  heap : ∃ hb T, w.cell? ⟨cb, 1, none⟩ = some (.pointer (some ⟨hb, 0, none⟩)) ∧ HeapIs w hb T M n ∧ (∀ k, T k → S k) ∧ ¬ T cb

section
variable {w w' : World} {cb : Nat} {S : Nat → Prop} {t : Int} {M : Int × Int → Prop} {n : Nat}
theorem Clk.kept {T : Nat → Prop} (h : Clk w cb S t M n) (k : Kept T w w') (ht : ∀ b, S b → ¬ T b) : Clk w' cb S t M n := by
  obtain ⟨hb, U, h1, h2, h3, h4⟩ := h.heap
  have hl := h.lt _ h.own
  exact ⟨fun j hj => Nat.lt_of_lt_of_le (h.lt j hj) k.size, h.own, (k.cell hl (ht _ h.own)).trans h.now, (k.frozen hl (ht _ h.own)).trans h.free, h.t0, h.t1, h.due, hb, U, (k.cell hl (ht _ h.own)).trans h1, h2.kept k (fun b hb => ht b (h3 b hb)), h3, h4⟩
theorem Clk.below (h : Clk w cb S t M n) (k : Below w.heap.size w w') : Clk w' cb S t M n := h.kept (Kept.of_below k (fun _ => False)) (fun _ _ => id)
theorem Clk.congr {M' : Int × Int → Prop} (h : Clk w cb S t M n) (e : ∀ y, M' y ↔ M y) : Clk w cb S t M' n := by
  obtain ⟨hb, U, h1, h2, h3⟩ := h.heap
  exact ⟨h.lt, h.own, h.now, h.free, h.t0, h.t1, fun y hy => h.due y ((e y).1 hy), hb, U, h1, h2.congr e, h3⟩
theorem Clk.ids (h : Clk w cb S t M n) {y z : Int × Int} (hy : M y) (hz : M z) (e : y.2 = z.2) : y = z := by
  obtain ⟨hb, U, h1, h2, h3⟩ := h.heap
  exact h2.ids hy hz e
theorem Clk.empty (h : Clk w cb S t M 0) (y : Int × Int) : ¬ M y := by
  obtain ⟨hb, U, h1, h2, h3⟩ := h.heap
  exact h2.empty y
theorem Clk.le (h : Clk w cb S t M n) : n ≤ 4096 := by
  obtain ⟨hb, U, h1, h2, h3⟩ := h.heap
  exact h2.2.1
theorem Clk.wf (h : Clk w cb S t M n) {y : Int × Int} (hy : M y) : Wf y := by
  obtain ⟨hb, U, h1, h2, h3⟩ := h.heap
  exact h2.1 y hy
end

theorem clk_new (w : World) : Calls Try.prog 9 #[] w fun e w' => ∃ cb S, e = .returned (.pointer (some ⟨cb, 0, none⟩)) ∧ Clk w' cb S 0 (fun _ => False) 0 ∧ (∀ k, S k → w.heap.size ≤ k) ∧ Below w.heap.size w w' := by
  have N := new_any w
  go_enter Try.func9, Try.ntmps9
  go_wp2_with fail
  go_at_call 22
  refine N.mono ?_
  rintro e w1 ⟨hb, T, rfl, h1, h2, b1⟩
  go_wp2
  go_ret
  obtain ⟨W, hW⟩ : ∃ W, W = w1.alloc (Obj.cells #[.int .i64 0, .pointer (some ⟨hb, 0, none⟩)] 57) := ⟨_, rfl⟩
  have b2 : Below w1.heap.size w1 W := by rw [hW]; exact (Below.refl _ _).alloc (Nat.le_refl _) _
  have d0 : W.cell? ⟨w1.heap.size, 0, none⟩ = some (.int .i64 0) := by rw [hW]; simp [go_sem]
  have d1 : W.cell? ⟨w1.heap.size, 1, none⟩ = some (.pointer (some ⟨hb, 0, none⟩)) := by rw [hW]; simp [go_sem]
  have d2 : W.frozen? ⟨w1.heap.size, 0, none⟩ = false := by rw [hW]; simp [go_sem]
  have d3 : W.heap.size = w1.heap.size + 1 := by rw [hW]; simp
  have hs := b1.size
  rw [← hW]
  refine ⟨w1.heap.size, fun k => k = w1.heap.size ∨ T k, rfl, ⟨?_, .inl rfl, d0, d2, by omega, by omega, fun _ h => h.elim, hb, T, d1, h1.below b2, fun k hk => .inr hk, fun hT => ?_⟩, ?_, b1.trans (b2.mono hs)⟩
  · rintro k (rfl | hk)
    · omega
    · have := h1.2.2.1 k hk; omega
  · have := h1.2.2.1 _ hT; omega
  · rintro k (rfl | hk)
    · exact hs
    · exact h2 k hk

section
variable {w : World} {cb : Nat} {S : Nat → Prop} {t : Int} {M : Int × Int → Prop} {n : Nat}
theorem now_any (h : Clk w cb S t M n) : Calls Try.prog 19 #[.pointer (some ⟨cb, 0, none⟩)] w fun e w' => e = .returned (.int .i64 t) ∧ w' = w := by
  have c0 := h.now
  clear h
  go_enter Try.func19, Try.ntmps19
  go_wp2
  go_ret
  exact ⟨rfl, rfl⟩
theorem now_nil (w : World) : Calls Try.prog 19 #[.pointer none] w fun e w' => e = .returned (.int .i64 0) ∧ w' = w := by
  go_enter Try.func19, Try.ntmps19
  go_wp2
  go_ret
  exact ⟨rfl, rfl⟩
theorem left_any (h : Clk w cb S t M n) : Calls Try.prog 20 #[.pointer (some ⟨cb, 0, none⟩)] w fun e w' => e = .returned (.int .i64 n) ∧ w' = w := by
  obtain ⟨hb, T, c1, h2, _⟩ := h.heap
  have L := len_any h2
  clear h h2
  go_enter Try.func20, Try.ntmps20
  go_wp2_with (go_at_call 30; refine L.mono ?_; rintro e w' ⟨rfl, hw⟩; obtain rfl := hw.symm)
  go_ret
  exact ⟨rfl, rfl⟩
theorem left_nil (w : World) : Calls Try.prog 20 #[.pointer none] w fun e w' => e = .returned (.int .i64 0) ∧ w' = w := by
  go_enter Try.func20, Try.ntmps20
  go_wp2
  go_ret
  exact ⟨rfl, rfl⟩
theorem set_nil (id at_ : Int) (w : World) : Calls Try.prog 10 #[.pointer none, .int .i64 id, .int .i64 at_] w fun e w' => e = .returned (.int .i64 6) ∧ w' = w := by
  go_enter Try.func10, Try.ntmps10
  go_wp2
  go_ret
  exact ⟨rfl, rfl⟩
theorem cancel_nil (id : Int) (w : World) : Calls Try.prog 12 #[.pointer none, .int .i64 id] w fun e w' => e = .returned (.int .i64 6) ∧ w' = w := by
  go_enter Try.func12, Try.ntmps12
  go_wp2
  go_ret
  exact ⟨rfl, rfl⟩
theorem next_nil (w : World) : Calls Try.prog 17 #[.pointer none] w fun e w' => e = .returned (.tuple #[vD (0, 0), .bool false]) ∧ Below w.heap.size w w' := by
  go_enter Try.func17, Try.ntmps17
  go_wp2
  exact bodyPost_ret (v := .tuple #[vD (0, 0), .bool false]) (by simp [results, Try.results17, go_sem, vD]) rfl ⟨rfl, ((Below.refl _ _).alloc (Nat.le_refl _) _)⟩
theorem advance_nil (to : Int) (w : World) : Calls Try.prog 14 #[.pointer none, .int .i64 to] w fun e w' => e = .returned (.tuple #[.slice none 0 0, .int .i64 6]) ∧ w' = w := by
  go_enter Try.func14, Try.ntmps14
  go_wp2
  go_ret2
  exact ⟨rfl, rfl⟩

theorem set_early (h : Clk w cb S t M n) (id at_ : Int) (c : at_ ≤ t) : Calls Try.prog 10 #[.pointer (some ⟨cb, 0, none⟩), .int .i64 id, .int .i64 at_] w fun e w' => e = .returned (.int .i64 1) ∧ w' = w := by
  have c0 := h.now
  clear h
  go_enter Try.func10, Try.ntmps10
  go_wp2
  go_ret
  exact ⟨rfl, rfl⟩
theorem set_late (h : Clk w cb S t M n) (id at_ : Int) (c : t < at_) (c2 : 1099511627776 < at_) : Calls Try.prog 10 #[.pointer (some ⟨cb, 0, none⟩), .int .i64 id, .int .i64 at_] w fun e w' => e = .returned (.int .i64 1) ∧ w' = w := by
  have c0 := h.now
  clear h
  go_enter Try.func10, Try.ntmps10
  go_wp2
  go_ret
  exact ⟨rfl, rfl⟩
theorem set_push (h : Clk w cb S t M n) (id at_ : Int) (c : t < at_) (c2 : at_ ≤ 1099511627776) {Q : Ending → World → Prop} {hb : Nat} (c1 : w.cell? ⟨cb, 1, none⟩ = some (.pointer (some ⟨hb, 0, none⟩)))
    (P : Calls Try.prog 23 #[.pointer (some ⟨hb, 0, none⟩), vI (at_, id)] w fun e w' => (∃ q, e = .returned (.int .i64 q)) ∧ Q e w') :
    Calls Try.prog 10 #[.pointer (some ⟨cb, 0, none⟩), .int .i64 id, .int .i64 at_] w Q := by
  have c0 := h.now
  have t0 := h.t0
  unfold vI at P
  have hg : 0 ≤ at_ := by omega
  clear h
  go_enter Try.func10, Try.ntmps10
  go_wp2_with fail
  go_at_call 23
  refine P.mono ?_
  rintro e w1 ⟨⟨q, rfl⟩, hQ⟩
  go_wp2
  exact hQ

/-- What 'Set' answers of a clock at the moment t at which n are to be due, those of M. -/
def setC (t : Int) (M : Int × Int → Prop) (n : Nat) (id at_ : Int) (D : ∀ p : Prop, Decidable p := fun p => Classical.propDecidable p) : Int :=
  if at_ ≤ t ∨ 1099511627776 < at_ then 1 else if ∃ y, M y ∧ y.2 = id then 5 else if 4096 ≤ n then 7 else 0
/-- What is to be due after it. -/
def setM (t : Int) (M : Int × Int → Prop) (n : Nat) (id at_ : Int) : Int × Int → Prop := fun y => setC t M n id at_ = 0 ∧ y = (at_, id) ∨ M y
/-- How many. -/
def setN (t : Int) (M : Int × Int → Prop) (n : Nat) (id at_ : Int) (D : ∀ p : Prop, Decidable p := fun p => Classical.propDecidable p) : Nat := if setC t M n id at_ D = 0 then n + 1 else n

theorem set_any (h : Clk w cb S t M n) (id at_ : Int) (hid : -9223372036854775808 ≤ id ∧ id < 9223372036854775808) : Calls Try.prog 10 #[.pointer (some ⟨cb, 0, none⟩), .int .i64 id, .int .i64 at_] w fun e w' => e = .returned (.int .i64 (setC t M n id at_)) ∧
    ∃ S', Clk w' cb S' t (setM t M n id at_) (setN t M n id at_) ∧ Kept S w w' ∧ ∀ k, S' k → S k ∨ w.heap.size ≤ k := by
  obtain ⟨hb, T, c1, h2, h3, h4⟩ := h.heap
  have stay : ∀ (w' : World), setC t M n id at_ ≠ 0 → Below w.heap.size w w' → ∃ S', Clk w' cb S' t (setM t M n id at_) (setN t M n id at_) ∧ Kept S w w' ∧ ∀ k, S' k → S k ∨ w.heap.size ≤ k := by
    intro w' hc b
    refine ⟨S, ?_, Kept.of_below b _, fun k => .inl⟩
    unfold setN
    rw [if_neg hc]
    exact (h.below b).congr fun y => ⟨fun e => e.elim (fun e => absurd e.1 hc) (fun a => a), .inr⟩
  by_cases d1 : at_ ≤ t
  · have e : setC t M n id at_ = 1 := if_pos (.inl d1)
    refine (set_early h id at_ d1).mono ?_
    rintro e1 w' ⟨rfl, rfl⟩
    exact ⟨by rw [e], stay _ (by omega) (Below.refl _ _)⟩
  by_cases d2 : 1099511627776 < at_
  · have e : setC t M n id at_ = 1 := if_pos (.inr d2)
    refine (set_late h id at_ (by omega) d2).mono ?_
    rintro e1 w' ⟨rfl, rfl⟩
    exact ⟨by rw [e], stay _ (by omega) (Below.refl _ _)⟩
  have t0 := h.t0
  have hwf : Wf (at_, id) := ⟨⟨by simp; omega, by simp; omega⟩, hid⟩
  have d3 : ¬ (at_ ≤ t ∨ 1099511627776 < at_) := by omega
  by_cases d4 : ∃ y, M y ∧ y.2 = id
  · have e : setC t M n id at_ = 5 := by unfold setC; rw [if_neg d3, if_pos d4]
    obtain ⟨y, hy, ey⟩ := d4
    refine set_push h id at_ (by omega) (by omega) c1 ((push_twice h2 (at_, id) y hwf hy ey).mono ?_)
    rintro e1 w' ⟨rfl, b⟩
    exact ⟨⟨_, rfl⟩, by rw [e], stay _ (by omega) b⟩
  have d5 : ∀ y, M y → y.2 ≠ (at_, id).2 := fun y hy e => d4 ⟨y, hy, e⟩
  by_cases d6 : 4096 ≤ n
  · have e : setC t M n id at_ = 7 := by unfold setC; rw [if_neg d3, if_neg d4, if_pos d6]
    obtain rfl : n = 4096 := Nat.le_antisymm h.le d6
    refine set_push h id at_ (by omega) (by omega) c1 ((push_full h2 (at_, id) hwf d5).mono ?_)
    rintro e1 w' ⟨rfl, b⟩
    exact ⟨⟨_, rfl⟩, by rw [e], stay _ (by omega) b⟩
  · have e : setC t M n id at_ = 0 := by unfold setC; rw [if_neg d3, if_neg d4, if_neg d6]
    refine set_push h id at_ (by omega) (by omega) c1 ((push_ok h2 (by omega) (at_, id) hwf d5).mono ?_)
    rintro e1 w' ⟨rfl, T', h5, k, h6⟩
    have hl := h.lt _ h.own
    have hcb := k.cell (o := 0) hl h4
    refine ⟨⟨_, rfl⟩, by rw [e], fun j => S j ∨ T' j, ?_, k.mono fun j _ hj => h3 j hj, ?_⟩
    · unfold setN
      rw [if_pos e]
      refine Clk.congr (M := fun y => y = (at_, id) ∨ M y) ⟨?_, .inl h.own, (k.cell hl h4).trans h.now, (k.frozen hl h4).trans h.free, h.t0, h.t1, ?_, hb, T', (k.cell hl h4).trans c1, h5, fun j hj => .inr hj, fun hT => ?_⟩ (fun y => ?_)
      · rintro j (hj | hj)
        · exact Nat.lt_of_lt_of_le (h.lt j hj) k.size
        · exact h5.2.2.1 j hj
      · rintro y (rfl | hy)
        · exact ⟨by simp; omega, by simp; omega⟩
        · exact h.due y hy
      · rcases h6 _ hT with e | e
        · exact h4 e
        · omega
      · unfold setM
        exact ⟨fun a => a.imp (fun a => a.2) (fun a => a), fun a => a.imp (fun a => ⟨e, a⟩) (fun a => a)⟩
    · rintro j (hj | hj)
      · exact .inl hj
      · exact (h6 j hj).imp (h3 j) (fun a => a)

/-- Is an id to be due: 1 or 0. -/
def has (M : Int × Int → Prop) (id : Int) (D : ∀ p : Prop, Decidable p := fun p => Classical.propDecidable p) : Nat :=
  if ∃ y, M y ∧ y.2 = id then 1 else 0

theorem cancel_any (h : Clk w cb S t M n) (id : Int) (hid : -9223372036854775808 ≤ id ∧ id < 9223372036854775808) : Calls Try.prog 12 #[.pointer (some ⟨cb, 0, none⟩), .int .i64 id] w fun e w' =>
    e = .returned (.int .i64 (if has M id = 1 then 0 else 6)) ∧ Clk w' cb S t (fun y => M y ∧ y.2 ≠ id) (n - has M id) ∧ Kept S w w' := by
  obtain ⟨hb, T, c1, h2, h3, h4⟩ := h.heap
  by_cases c : ∃ y, M y ∧ y.2 = id
  · have e : has M id = 1 := if_pos c
    obtain ⟨y, hy, rfl⟩ := c
    have R := remove_some h2 y hy
    rw [e, if_pos rfl]
    clear h2
    go_enter Try.func12, Try.ntmps12
    go_wp2_with (go_at_call 25; refine R.mono ?_; rintro e1 w1 ⟨rfl, h5, k⟩)
    go_ret
    have hl := h.lt _ h.own
    exact ⟨rfl, ⟨fun j hj => Nat.lt_of_lt_of_le (h.lt j hj) k.size, h.own, (k.cell hl h4).trans h.now, (k.frozen hl h4).trans h.free, h.t0, h.t1, fun z hz => h.due z hz.1, hb, T, (k.cell hl h4).trans c1, h5, h3, h4⟩, k.mono fun j _ hj => h3 j hj⟩
  · have e : has M id = 0 := if_neg c
    have R := remove_none h2 id hid (fun y hy e => c ⟨y, hy, e⟩)
    rw [e, if_neg (by decide)]
    clear h2
    go_enter Try.func12, Try.ntmps12
    go_wp2_with (go_at_call 25; refine R.mono ?_; rintro e1 w1 ⟨rfl, hw⟩; obtain rfl := hw.symm)
    go_ret
    exact ⟨rfl, h.congr fun y => ⟨fun a => a.1, fun a => ⟨a, fun e => c ⟨y, a, e⟩⟩⟩, Kept.refl _ _⟩
end
end Go.Proofs.Ythamaiibknmeeaa
