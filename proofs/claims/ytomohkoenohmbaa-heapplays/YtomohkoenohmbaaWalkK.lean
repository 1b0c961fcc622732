/-
  The same, told of a heap whose blocks all lie from B on; that the fixed answer of the statements ('awake') is met.
-/
import Derived.Test.YtomohkoenohmbaaWalkJ
namespace Go.Proofs.Ytomohkoenohmbaa
open Go.RowKit Go.Lib Go.Sort Go.Maps

/-- A heap in block hb, all of whose blocks lie from B on. -/
def Held (B : Nat) (w : World) (hb : Nat) (M : Int × Int → Prop) (n : Nat) : Prop := B ≤ w.heap.size ∧ ∃ S, HeapIs w hb S M n ∧ ∀ k, S k → B ≤ k

section
variable {B : Nat} {w w' : World} {hb : Nat} {M : Int × Int → Prop} {n : Nat}
theorem Held.below (h : Held B w hb M n) (k : Below w.heap.size w w') : Held B w' hb M n := by
  obtain ⟨h0, S, h1, h2⟩ := h
  exact ⟨Nat.le_trans h0 k.size, S, h1.below k, h2⟩
theorem Held.congr {M' : Int × Int → Prop} (h : Held B w hb M n) (e : ∀ y, M' y ↔ M y) : Held B w hb M' n := by
  obtain ⟨h0, S, h1, h2⟩ := h
  exact ⟨h0, S, h1.congr e, h2⟩
theorem Held.ids (h : Held B w hb M n) {y z : Int × Int} (hy : M y) (hz : M z) (e : y.2 = z.2) : y = z := by
  obtain ⟨h0, S, h1, h2⟩ := h
  exact h1.ids hy hz e
theorem Held.wf (h : Held B w hb M n) {y : Int × Int} (hy : M y) : Wf y := by
  obtain ⟨h0, S, h1, h2⟩ := h
  exact h1.1 y hy
theorem Held.le (h : Held B w hb M n) : n ≤ 4096 := by
  obtain ⟨h0, S, h1, h2⟩ := h
  exact h1.2.1
theorem Held.empty (h : Held B w hb M 0) (y : Int × Int) : ¬ M y := by
  obtain ⟨h0, S, h1, h2⟩ := h
  exact h1.empty y
theorem Held.base {C : Nat} (h : Held B w hb M n) (e : C ≤ B) : Held C w hb M n := by
  obtain ⟨h0, S, h1, h2⟩ := h
  exact ⟨Nat.le_trans e h0, S, h1, fun k hk => Nat.le_trans e (h2 k hk)⟩

theorem held_new (w : World) : Calls Try.prog 9 #[] w fun e w' => ∃ hb, e = .returned (.pointer (some ⟨hb, 0, none⟩)) ∧ Held w.heap.size w' hb (fun _ => False) 0 ∧ Below w.heap.size w w' := by
  refine (new_any w).mono ?_
  rintro e w' ⟨hb, S, rfl, h1, h2, h3⟩
  exact ⟨hb, rfl, ⟨h3.size, S, h1, h2⟩, h3⟩
theorem Held.len (h : Held B w hb M n) : Calls Try.prog 22 #[.pointer (some ⟨hb, 0, none⟩)] w fun e w' => e = .returned (.int .i64 n) ∧ w' = w := by
  obtain ⟨h0, S, h1, h2⟩ := h
  exact len_any h1
theorem Held.push (h : Held B w hb M n) (hn : n < 4096) (x : Int × Int) (hx : Wf x) (hno : ∀ y, M y → y.2 ≠ x.2) : Calls Try.prog 11 #[.pointer (some ⟨hb, 0, none⟩), vI x] w fun e w' => e = .returned (.int .i64 0) ∧
    Held B w' hb (fun y => y = x ∨ M y) (n + 1) ∧ Below B w w' := by
  obtain ⟨h0, S, h1, h2⟩ := h
  refine (push_ok h1 hn x hx hno).mono ?_
  rintro e w' ⟨rfl, S', h3, k, h4⟩
  have b := k.below h0 h2
  refine ⟨rfl, ⟨Nat.le_trans h0 b.size, S', h3, fun k hk => ?_⟩, b⟩
  rcases h4 k hk with e | e
  · exact h2 k e
  · exact Nat.le_trans h0 e
theorem Held.twice (h : Held B w hb M n) (x y : Int × Int) (hx : Wf x) (hy : M y) (e : y.2 = x.2) : Calls Try.prog 11 #[.pointer (some ⟨hb, 0, none⟩), vI x] w fun e w' => e = .returned (.int .i64 5) ∧ Below w.heap.size w w' := by
  obtain ⟨h0, S, h1, h2⟩ := h
  exact push_twice h1 x y hx hy e
theorem Held.full (h : Held B w hb M 4096) (x : Int × Int) (hx : Wf x) (hno : ∀ y, M y → y.2 ≠ x.2) : Calls Try.prog 11 #[.pointer (some ⟨hb, 0, none⟩), vI x] w fun e w' => e = .returned (.int .i64 7) ∧ Below w.heap.size w w' := by
  obtain ⟨h0, S, h1, h2⟩ := h
  exact push_full h1 x hx hno
theorem Held.pop (h : Held B w hb M n) (hn : 0 < n) : Calls Try.prog 12 #[.pointer (some ⟨hb, 0, none⟩)] w fun e w' => ∃ x, e = .returned (.tuple #[vI x, .bool true]) ∧ (M x ∧ ∀ y, M y → ¬ lt y x) ∧
    Held B w' hb (fun z => M z ∧ z.2 ≠ x.2) (n - 1) ∧ Below B w w' := by
  obtain ⟨h0, S, h1, h2⟩ := h
  refine (pop_some h1 hn).mono ?_
  rintro e w' ⟨x, rfl, hx, h3, k⟩
  have b := k.below h0 h2
  exact ⟨x, rfl, hx, ⟨Nat.le_trans h0 b.size, S, h3, h2⟩, b⟩
theorem Held.popNone (h : Held B w hb M 0) : Calls Try.prog 12 #[.pointer (some ⟨hb, 0, none⟩)] w fun e w' => e = .returned (.tuple #[vI (0, 0), .bool false]) ∧ Below w.heap.size w w' := by
  obtain ⟨h0, S, h1, h2⟩ := h
  exact pop_none h1
theorem Held.get (h : Held B w hb M n) (y : Int × Int) (hy : M y) : Calls Try.prog 17 #[.pointer (some ⟨hb, 0, none⟩), .int .i64 y.2] w fun e w' => e = .returned (.tuple #[vI y, .bool true]) ∧ Below w.heap.size w w' := by
  obtain ⟨h0, S, h1, h2⟩ := h
  exact get_some h1 y hy
theorem Held.getNone (h : Held B w hb M n) (id : Int) (hid : -9223372036854775808 ≤ id ∧ id < 9223372036854775808) (hno : ∀ y, M y → y.2 ≠ id) : Calls Try.prog 17 #[.pointer (some ⟨hb, 0, none⟩), .int .i64 id] w fun e w' =>
    e = .returned (.tuple #[vI (0, 0), .bool false]) ∧ Below w.heap.size w w' := by
  obtain ⟨h0, S, h1, h2⟩ := h
  exact get_none h1 id hid hno
theorem Held.remove (h : Held B w hb M n) (y : Int × Int) (hy : M y) : Calls Try.prog 14 #[.pointer (some ⟨hb, 0, none⟩), .int .i64 y.2] w fun e w' => e = .returned (.int .i64 0) ∧
    Held B w' hb (fun z => M z ∧ z.2 ≠ y.2) (n - 1) ∧ Below B w w' := by
  obtain ⟨h0, S, h1, h2⟩ := h
  refine (remove_some h1 y hy).mono ?_
  rintro e w' ⟨rfl, h3, k⟩
  have b := k.below h0 h2
  exact ⟨rfl, ⟨Nat.le_trans h0 b.size, S, h3, h2⟩, b⟩
end

set_option maxRecDepth 20000 in
set_option maxHeartbeats 1000000 in
theorem awake_any (w : World) : Calls Try.prog 8 #[] w fun e w' => e = .returned (.bool true) ∧ Below w.heap.size w w' := by
  have N := held_new w
  go_enter Try.func8, Try.ntmps8
  go_wp2_with fail
  go_at_call 9
  refine N.mono ?_
  rintro e w1 ⟨hb, rfl, H1, b1⟩
  clear N
  have P1 := H1.push (by omega) (5, 1) (by unfold Wf; decide) (fun _ h => h.elim)
  unfold vI at P1
  go_wp2_with fail
  go_at_call 11
  refine P1.mono ?_
  rintro e w2 ⟨rfl, H2, b2⟩
  have b2' := b1.trans b2
  have P2 := H2.push (by omega) (3, 9) (by unfold Wf; decide) (fun y h => by rcases h with rfl | h; decide; exact h.elim)
  unfold vI at P2
  clear P1 H1 b1 b2
  go_wp2_with fail
  go_at_call 11
  refine P2.mono ?_
  rintro e w3 ⟨rfl, H3, b3⟩
  have b3' := b2'.trans b3
  have P3 := H3.pop (by omega)
  clear P2 H2 b2' b3
  go_wp2_with fail
  go_at_call 12
  refine P3.mono ?_
  rintro e w4 ⟨x, rfl, ⟨hx1, hx2⟩, H4, b4⟩
  have b4' := b3'.trans b4
  obtain rfl : x = (3, 9) := by
    rcases hx1 with e | e | e
    · exact e
    · subst e; exact absurd (by unfold lt; decide) (hx2 (3, 9) (.inl rfl))
    · exact e.elim
  have b5 := b4'.alloc b4'.size (.cells #[.int .u64 3, .int .i64 9] 29)
  have L := (H4.below (w' := w4.alloc (.cells #[.int .u64 3, .int .i64 9] 29)) ((Below.refl _ _).alloc (Nat.le_refl _) _)).len
  clear P3 H3 b3' b4 hx1 hx2 b4' H4
  unfold vI
  go_wp2_with (go_at_call 22; refine L.mono ?_; rintro e w' ⟨rfl, hw⟩; obtain rfl := hw.symm)
  go_ret
  exact ⟨rfl, b5⟩
end Go.Proofs.Ytomohkoenohmbaa
