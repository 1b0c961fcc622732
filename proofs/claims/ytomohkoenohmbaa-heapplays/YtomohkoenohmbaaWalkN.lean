/-
  What 'List' answers of any heap; what 'Same' of the reference answers of two lists that are the same; two heaps beside each other. Conditions: as each theorem says them.
-/
import Derived.Test.YtomohkoenohmbaaWalkM
namespace Go.Proofs.Ytomohkoenohmbaa
open Go.RowKit Go.Lib Go.Sort Go.Maps

theorem list_any {w : World} {hb : Nat} {S : Nat → Prop} {M : Int × Int → Prop} {n : Nat} (h : HeapIs w hb S M n) : Calls Try.prog 20 #[.pointer (some ⟨hb, 0, none⟩)] w fun e w' =>
    ∃ (a : Option Addr) (cap : Nat) (L : List (Int × Int)), e = .returned (.slice a n cap) ∧ ListAt w.heap.size w' a n cap L ∧ ListOf L M ∧ Below w.heap.size w w' := by
  by_cases c : 0 < n
  · exact list_some h c
  · obtain rfl : n = 0 := by omega
    refine (list_none h).mono ?_
    rintro e w' ⟨rfl, rfl⟩
    exact ⟨none, 0, [], rfl, ⟨rfl, fun _ => ⟨rfl, rfl⟩, fun h => by omega⟩, ⟨List.Pairwise.nil, fun y => ⟨fun hm => (by cases hm), fun hy => absurd hy (h.empty y)⟩⟩, Below.refl _ _⟩

theorem same_yes (a b : Option Addr) (n c1 c2 : Nat) (f g : Nat → Int × Int) (w : World) (h1 : Row w a n f) (h2 : Row w b n g) (hn : n ≤ 9223372036854775807) (h : ∀ k, k < n → f k = g k) :
    Calls Try.prog 19 #[.slice a n c1, .slice b n c2] w fun e w' => e = .returned (.bool true) ∧ Below w.heap.size w w' := by
  have H : Hid (∀ k, k < n → f k = g k) := h
  clear h
  go_enter Try.func19, Try.ntmps19
  go_wp2
  go_loopw [5] (fun i wr => ∃ k : Nat, k ≤ n ∧ i = .int .i64 k ∧ Below w.heap.size w wr) (fun i _ => n - (intOf i).toNat)
  case atStart => exact ⟨0, Nat.zero_le _, rfl, Below.refl _ _⟩
  case round =>
    obtain ⟨k, hk, rfl, p3⟩ := hrel
    by_cases hlt : k < n
    · obtain ⟨b1, o1, rfl, hb1, hc1⟩ := h1 (by omega)
      obtain ⟨b2, o2, rfl, hb2, hc2⟩ := h2 (by omega)
      have d1 := (p3.cell (p := ⟨b1, o1 + k * 2, none⟩) hb1).trans (hc1 k hlt).1
      have d2 := (p3.cell (p := ⟨b1, o1 + k * 2 + 1, none⟩) hb1).trans (hc1 k hlt).2
      have d3 := (p3.cell (p := ⟨b2, o2 + k * 2, none⟩) hb2).trans (hc2 k hlt).1
      have d4 := (p3.cell (p := ⟨b2, o2 + k * 2 + 1, none⟩) hb2).trans (hc2 k hlt).2
      rw [← H.out k hlt] at d3 d4
      have i1 : (k : Int) < (n : Int) := by omega
      clear h1 h2 hc1 hc2
      go_wp2_with fail
      refine region_still (by kernel_rfl) ?_
      repeat still_step
      refine wpStill_nil ?_
      go_wp2
      go_roundw
      case rel => exact ⟨k + 1, by omega, by go_num, ⟨p3.os, p3.tape, p3.output, p3.size, p3.block⟩⟩
      case measure => simp [intOf]; omega
    · obtain rfl : k = n := by omega
      clear h1 h2
      go_wp2
      go_ret
      exact ⟨rfl, p3⟩

/-- Two heaps, apart from each other and from the blocks of X, whose blocks all lie from B on. -/
def Two (B : Nat) (X : Nat → Prop) (w : World) (g h : Nat) (Mg Mh : Int × Int → Prop) (ng nh : Nat) : Prop :=
  B ≤ w.heap.size ∧ ∃ Sg Sh, HeapIs w g Sg Mg ng ∧ HeapIs w h Sh Mh nh ∧ (∀ k, Sg k → ¬ Sh k) ∧ (∀ k, Sg k → B ≤ k) ∧ (∀ k, Sh k → B ≤ k) ∧ ∀ k, X k → k < w.heap.size ∧ ¬ Sg k ∧ ¬ Sh k

section
variable {B : Nat} {X : Nat → Prop} {w w' : World} {g h : Nat} {Mg Mh : Int × Int → Prop} {ng nh : Nat}
theorem Two.symm (t : Two B X w g h Mg Mh ng nh) : Two B X w h g Mh Mg nh ng := by
  obtain ⟨h0, Sg, Sh, h1, h2, h3, h4, h5, h6⟩ := t
  exact ⟨h0, Sh, Sg, h2, h1, fun k a b => h3 k b a, h5, h4, fun k hk => ⟨(h6 k hk).1, (h6 k hk).2.2, (h6 k hk).2.1⟩⟩
theorem Two.below (t : Two B X w g h Mg Mh ng nh) (b : Below w.heap.size w w') : Two B X w' g h Mg Mh ng nh := by
  obtain ⟨h0, Sg, Sh, h1, h2, h3, h4, h5, h6⟩ := t
  exact ⟨Nat.le_trans h0 b.size, Sg, Sh, h1.below b, h2.below b, h3, h4, h5, fun k hk => ⟨Nat.lt_of_lt_of_le (h6 k hk).1 b.size, (h6 k hk).2⟩⟩
theorem Two.box (t : Two B X w g h Mg Mh ng nh) (o : Obj) : Two B (fun k => k = w.heap.size) (w.alloc o) g h Mg Mh ng nh := by
  have b : Below w.heap.size w (w.alloc o) := (Below.refl _ _).alloc (Nat.le_refl _) _
  obtain ⟨h0, Sg, Sh, h1, h2, h3, h4, h5, h6⟩ := t
  refine ⟨Nat.le_trans h0 b.size, Sg, Sh, h1.below b, h2.below b, h3, h4, h5, fun k hk => ⟨by rw [hk]; simp, fun e => ?_, fun e => ?_⟩⟩
  · have := h1.2.2.1 k e; omega
  · have := h2.2.2.1 k e; omega
theorem Two.congr {Mg' Mh' : Int × Int → Prop} (t : Two B X w g h Mg Mh ng nh) (e1 : ∀ y, Mg' y ↔ Mg y) (e2 : ∀ y, Mh' y ↔ Mh y) : Two B X w g h Mg' Mh' ng nh := by
  obtain ⟨h0, Sg, Sh, h1, h2, h3, h4, h5, h6⟩ := t
  exact ⟨h0, Sg, Sh, h1.congr e1, h2.congr e2, h3, h4, h5, h6⟩
theorem Two.push (t : Two B X w g h Mg Mh ng nh) (hn : ng < 4096) (x : Int × Int) (hx : Wf x) (hno : ∀ y, Mg y → y.2 ≠ x.2) : Calls Try.prog 11 #[.pointer (some ⟨g, 0, none⟩), vI x] w fun e w' => e = .returned (.int .i64 0) ∧
    Two B X w' g h (fun y => y = x ∨ Mg y) Mh (ng + 1) nh ∧ Below B w w' ∧ ∀ k, X k → w'.heap[k]? = w.heap[k]? := by
  obtain ⟨h0, Sg, Sh, h1, h2, h3, h4, h5, h6⟩ := t
  refine (push_ok h1 hn x hx hno).mono ?_
  rintro e w' ⟨rfl, S', p1, k, p2⟩
  have b := k.below h0 h4
  refine ⟨rfl, ⟨Nat.le_trans h0 b.size, S', Sh, p1, h2.kept k (fun j hj hg => h3 j hg hj), fun j hj hh => ?_, fun j hj => ?_, h5, fun j hj => ⟨Nat.lt_of_lt_of_le (h6 j hj).1 k.size, fun e => ?_, (h6 j hj).2.2⟩⟩, b, fun j hj => k.block j (h6 j hj).1 (h6 j hj).2.1⟩
  · rcases p2 j hj with e | e
    · exact h3 j e hh
    · have := h2.2.2.1 j hh; omega
  · rcases p2 j hj with e | e
    · exact h4 j e
    · exact Nat.le_trans h0 e
  · rcases p2 j e with e | e
    · exact (h6 j hj).2.1 e
    · have := (h6 j hj).1; omega
theorem Two.change (t : Two B X w g h Mg Mh ng nh) (x y : Int × Int) (hx : Wf x) (hy : Mg y) (e : x.2 = y.2) : Calls Try.prog 16 #[.pointer (some ⟨g, 0, none⟩), vI x] w fun e w' => e = .returned (.int .i64 0) ∧
    Two B X w' g h (fun z => z = x ∨ Mg z ∧ z.2 ≠ x.2) Mh ng nh ∧ Below B w w' := by
  obtain ⟨h0, Sg, Sh, h1, h2, h3, h4, h5, h6⟩ := t
  refine (change_some h1 x y hx hy e).mono ?_
  rintro e w' ⟨rfl, p1, k⟩
  have b := k.below h0 h4
  exact ⟨rfl, ⟨Nat.le_trans h0 b.size, Sg, Sh, p1, h2.kept k (fun j hj hg => h3 j hg hj), h3, h4, h5, fun j hj => ⟨Nat.lt_of_lt_of_le (h6 j hj).1 k.size, (h6 j hj).2⟩⟩, b⟩
theorem Two.list (t : Two B X w g h Mg Mh ng nh) : Calls Try.prog 20 #[.pointer (some ⟨g, 0, none⟩)] w fun e w' =>
    ∃ (a : Option Addr) (cap : Nat) (L : List (Int × Int)), e = .returned (.slice a ng cap) ∧ ListAt w.heap.size w' a ng cap L ∧ ListOf L Mg ∧ Two B X w' g h Mg Mh ng nh ∧ Below w.heap.size w w' := by
  have t' := t
  obtain ⟨h0, Sg, Sh, h1, h2, h3, h4, h5, h6⟩ := t
  refine (list_any h1).mono ?_
  rintro e w' ⟨a, cap, L, rfl, p1, p2, b⟩
  exact ⟨a, cap, L, rfl, p1, p2, t'.below b, b⟩
end
theorem two_new (w : World) {B g : Nat} {Mg : Int × Int → Prop} {ng : Nat} (h : Held B w g Mg ng) : Calls Try.prog 9 #[] w fun e w' => ∃ hb, e = .returned (.pointer (some ⟨hb, 0, none⟩)) ∧ Two B (fun _ => False) w' g hb Mg (fun _ => False) ng 0 ∧ Below w.heap.size w w' := by
  obtain ⟨h0, S, h1, h2⟩ := h
  refine (new_any w).mono ?_
  rintro e w' ⟨hb, S', rfl, p1, p2, b⟩
  refine ⟨hb, rfl, ⟨Nat.le_trans h0 b.size, S, S', h1.below b, p1, fun k hk hk' => ?_, h2, fun k hk => Nat.le_trans h0 (p2 k hk), fun k hk => hk.elim⟩, b⟩
  have e1 := h1.2.2.1 k hk
  have e2 := p2 k hk'
  omega
end Go.Proofs.Ytomohkoenohmbaa
