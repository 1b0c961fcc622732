/-
  How many are to be due, told by which are; one of two clocks is set. Conditions: as each theorem says them.
-/
import Derived.Test.YthamaiibknmeeaaTrio
namespace Go.Proofs.Ythamaiibknmeeaa
open Go.RowKit Go.Lib Go.Sort Go.Maps

theorem Clk.count {w : World} {cb : Nat} {S : Nat → Prop} {t : Int} {M : Int × Int → Prop} {n : Nat} (h : Clk w cb S t M n) : ∃ L : List (Int × Int), L.Nodup ∧ L.length = n ∧ ∀ y, y ∈ L ↔ M y := by
  obtain ⟨hb, T, _, ⟨_, _, _, _, mb, sa, cap, f, pos, _, _, h7⟩, _⟩ := h.heap
  refine ⟨(List.range n).map f, ?_, by simp, fun y => ?_⟩
  · rw [List.nodup_iff_pairwise_ne, List.pairwise_iff_getElem]
    intro i j h1 h2 h3 e
    simp at h1 h2 e
    have e1 := (h7.at_ _ i).2 ⟨h1, rfl⟩
    have e2 := (h7.at_ _ j).2 ⟨h2, rfl⟩
    rw [e, e2] at e1
    cases e1
    omega
  · rw [h7.mem]
    simp
theorem Clk.same_n {w w' : World} {ca cb : Nat} {S S' : Nat → Prop} {t t' : Int} {M M' : Int × Int → Prop} {n n' : Nat} (h : Clk w ca S t M n) (k : Clk w' cb S' t' M' n') (e : ∀ y, M y ↔ M' y) : n = n' := by
  obtain ⟨L, h1, h2, h3⟩ := h.count
  obtain ⟨K, k1, k2, k3⟩ := k.count
  have := ((List.perm_ext_iff_of_nodup h1 k1).2 fun y => by rw [h3, k3]; exact e y).length_eq
  omega

theorem setM_fresh {M : Int × Int → Prop} {n : Nat} {id at_ : Int} (h3 : ∀ y, M y → y.2 ≠ id) (h4 : n < 4096) (y : Int × Int) : setM 0 M n id at_ y ↔ (y = (at_, id) ∧ 0 < at_ ∧ at_ ≤ 1099511627776) ∨ M y := by
  unfold setM
  by_cases c : 0 < at_ ∧ at_ ≤ 1099511627776
  · have z := setC_zero c.1 c.2 h3 h4
    exact ⟨fun a => a.imp (fun a => ⟨a.2, c⟩) (fun a => a), fun a => a.imp (fun a => ⟨z, a.1⟩) (fun a => a)⟩
  · have z : setC 0 M n id at_ = 1 := if_pos (by omega)
    exact ⟨fun a => a.imp (fun a => by omega) (fun a => a), fun a => a.imp (fun a => absurd a.2 c) (fun a => a)⟩
theorem setN_le (t : Int) (M : Int × Int → Prop) (n : Nat) (id at_ : Int) : setN t M n id at_ ≤ n + 1 := by
  unfold setN
  split <;> omega

theorem Trio.set {B : Nat} {w : World} {ca cb : Nat} {Sa Sb : Nat → Prop} {ta tb : Int} {Ma Mb : Int × Int → Prop} {na nb : Nat} {v : Value} {P : List (Int × Int)} (h : Trio B w ca Sa ta Ma na cb Sb tb Mb nb v P) (id at_ : Int) (hid : -9223372036854775808 ≤ id ∧ id < 9223372036854775808) :
    Calls Try.prog 10 #[.pointer (some ⟨cb, 0, none⟩), .int .i64 id, .int .i64 at_] w fun e w' => e = .returned (.int .i64 (setC tb Mb nb id at_)) ∧ (∃ Sb', Trio B w' ca Sa ta Ma na cb Sb' tb (setM tb Mb nb id at_) (setN tb Mb nb id at_) v P ∧ ∀ k, Sb' k → Sb k ∨ w.heap.size ≤ k) ∧ Kept Sb w w' ∧ Below B w w' := by
  refine (set_any h.b id at_ hid).mono ?_
  rintro e w' ⟨rfl, S', q1, k, q3⟩
  have b := k.below h.hB h.bB
  refine ⟨rfl, ⟨S', ⟨Nat.le_trans h.hB b.size, h.a.kept k h.ab, q1, fun j ha hs => ?_, h.aB, fun j hj => ?_, h.p.kept k fun g e => (h.pa g e).2, fun g e => ⟨(h.pa g e).1, fun hs => ?_⟩⟩, q3⟩, k, b⟩
  · rcases q3 j hs with e | e
    · exact h.ab j ha e
    · have := h.a.lt j ha; omega
  · rcases q3 j hj with e | e
    · exact h.bB j e
    · exact Nat.le_trans h.hB e
  · rcases q3 g hs with e' | e'
    · exact (h.pa g e).2 e'
    · have := (World.ownsRow.lt h.p g e).2; omega
end Go.Proofs.Ythamaiibknmeeaa
