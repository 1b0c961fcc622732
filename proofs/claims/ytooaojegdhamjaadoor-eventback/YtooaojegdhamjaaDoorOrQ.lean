/-
  Operations that are taken first, their side conditions filled by themselves.
-/
import Derived.Test.YtooaojegdhamjaaDoorOrd
namespace Go.Proofs.YtooaojegdhamjaaDoor
open Go

section
variable {P : Program} {ops : Array Oper} {Q : Exit → Act → World → Prop} {md : Region.Mode} {T U : World → Prop} {j0 : Nat}
/-- What is asked of an operation that is taken first, as one test. -/
def Rok (md : Region.Mode) (ops : Array Oper) (l : Array Bool) (i j0 : Nat) : Bool := Region.noSelect ops && (Region.free md ops l i && ((Region.ready md ops l).contains i && !(i == j0)))
theorem Rok.out {md : Region.Mode} {ops : Array Oper} {l : Array Bool} {i j0 : Nat} (h : Rok md ops l i j0 = true) : Region.noSelect ops = true ∧ Region.free md ops l i = true ∧ (Region.ready md ops l).contains i = true ∧ i ≠ j0 := by
  unfold Rok at h
  rw [Bool.and_eq_true, Bool.and_eq_true, Bool.and_eq_true] at h
  exact ⟨h.1, h.2.1, h.2.2.1, fun e => by have := h.2.2.2; rw [e] at this; simp at this⟩
theorem AnyG.tk (i d : Nat) {oi : Oper} {v : Value} {n : Nat} {l : Array Bool} {a : Act} {w : World} (hi : ops[i]? = some oi) (hd : oi.dst = some d) (hb : Rok md ops l i j0 = true)
    (hQ : ∀ c a w, Q (.panic c) (a.put oi.dst v) w → Q (.panic c) a w) (hT : T w ∧ (l.getD j0 true = false → U w)) (hw : Region.wanted oi (yielded ops a.tmps) = true)
    (hy : ∀ w, T w → (execOp a.eval oi).run P w = .ok (.value v) w)
    (h : AnyG P md ops Q T U j0 n (l.setIfInBounds i true) ⟨a.tmps.setIfInBounds d v, a.defers⟩ w) : AnyG P md ops Q T U j0 (n + 1) l a w :=
  AnyG.takeAt i d hi hd (Rok.out hb).1 (Rok.out hb).2.1 (Rok.out hb).2.2.1 (Rok.out hb).2.2.2 hQ hT hw hy h
theorem AnyG.ek (i d : Nat) {oi : Oper} {v : Value} {n : Nat} {l : Array Bool} {a : Act} {w : World} (hi : ops[i]? = some oi) (hd : oi.dst = some d) (hb : (Rok md ops l i j0 && (waits md ops j0 i && !(l.getD j0 true))) = true)
    (hQ : ∀ c a w, Q (.panic c) (a.put oi.dst v) w → Q (.panic c) a w) (hT : T w ∧ (l.getD j0 true = false → U w)) (hw : Region.wanted oi (yielded ops a.tmps) = true)
    (hy : ∀ w, T w ∧ U w → (execOp a.eval oi).run P w = .ok (.value v) w)
    (h : AnyG P md ops Q T U j0 n (l.setIfInBounds i true) ⟨a.tmps.setIfInBounds d v, a.defers⟩ w) : AnyG P md ops Q T U j0 (n + 1) l a w := by
  rw [Bool.and_eq_true, Bool.and_eq_true] at hb
  have hr := Rok.out hb.1
  exact AnyG.earlyAt i d hi hd hr.1 hr.2.1 hr.2.2.1 hr.2.2.2 hb.2.1 (by simpa using hb.2.2) hQ hT hw hy h
/-- What is not asked for is passed by. -/
theorem AnyG.sk (i d : Nat) {oi : Oper} {n : Nat} {l : Array Bool} {a : Act} {w : World} (hi : ops[i]? = some oi) (hd : oi.dst = some d) (hb : Rok md ops l i j0 = true)
    (hQ : ∀ c a w, Q (.panic c) (a.put oi.dst undef) w → Q (.panic c) a w) (hT : T w ∧ (l.getD j0 true = false → U w)) (hw : Region.wanted oi (yielded ops a.tmps) = false)
    (h : AnyG P md ops Q T U j0 n (l.setIfInBounds i true) ⟨a.tmps.setIfInBounds d undef, a.defers⟩ w) : AnyG P md ops Q T U j0 (n + 1) l a w :=
  AnyG.take hi (Rok.out hb).1 (Rok.out hb).2.1 (Rok.out hb).2.2.1 (Rok.out hb).2.2.2 hQ (.inr ⟨hw, rfl⟩) hT (by rw [put_at hd]; exact h)
theorem tkA {α : Type} {l : List α} {i : Nat} {a : α} : l.toArray.setIfInBounds i a = (l.set i a).toArray := List.setIfInBounds_toArray ..
theorem tkB {α : Type} {a b : α} {l : List α} : (a :: l).set 0 b = b :: l := rfl
theorem tkC {α : Type} {a b : α} {l : List α} {i : Nat} : (a :: l).set (i + 1) b = a :: l.set i b := rfl
end
section
variable {P : Program} {ops : Array Oper} {Q : Exit → Act → World → Prop} {md : Region.Mode} {T U : World → Prop} {j0 : Nat} {oi : Oper} {v : Value} {n : Nat} {l : Array Bool} {a : Act} {w : World}
/-- Taken where nothing is asked but T. -/
theorem AnyG.tq (i d : Nat) (hT : T w) (h : AnyG P md ops Q T (fun _ => True) j0 n (l.setIfInBounds i true) ⟨a.tmps.setIfInBounds d v, a.defers⟩ w)
    (hi : ops[i]? = some oi := by rfl) (hd : oi.dst = some d := by rfl) (hb : Rok md ops l i j0 = true := by kernel_rfl) (hQ : ∀ c a w, Q (.panic c) (a.put oi.dst v) w → Q (.panic c) a w := by exact fun _ _ _ h => h)
    (hw : Region.wanted oi (yielded ops a.tmps) = true := by rfl) (hy : ∀ w, T w → (execOp a.eval oi).run P w = .ok (.value v) w := by intro w hSw; go_simp; first | rfl | rw [if_neg (by omega)]) : AnyG P md ops Q T (fun _ => True) j0 (n + 1) l a w :=
  AnyG.tk i d hi hd hb hQ ⟨hT, fun _ => trivial⟩ hw hy h
/-- Passed by. -/
theorem AnyG.sq (i d : Nat) (hT : T w) (h : AnyG P md ops Q T (fun _ => True) j0 n (l.setIfInBounds i true) ⟨a.tmps.setIfInBounds d undef, a.defers⟩ w)
    (hi : ops[i]? = some oi := by rfl) (hd : oi.dst = some d := by rfl) (hb : Rok md ops l i j0 = true := by kernel_rfl) (hQ : ∀ c a w, Q (.panic c) (a.put oi.dst undef) w → Q (.panic c) a w := by exact fun _ _ _ h => h)
    (hw : Region.wanted oi (yielded ops a.tmps) = false := by rfl) : AnyG P md ops Q T (fun _ => True) j0 (n + 1) l a w :=
  AnyG.sk i d hi hd hb hQ ⟨hT, fun _ => trivial⟩ hw h
/-- Taken where U holds besides. -/
theorem AnyG.tr (i d : Nat) (hT : T w ∧ (l.getD j0 true = false → U w)) (h : AnyG P md ops Q T U j0 n (l.setIfInBounds i true) ⟨a.tmps.setIfInBounds d v, a.defers⟩ w)
    (hi : ops[i]? = some oi := by rfl) (hd : oi.dst = some d := by rfl) (hb : Rok md ops l i j0 = true := by kernel_rfl) (hQ : ∀ c a w, Q (.panic c) (a.put oi.dst v) w → Q (.panic c) a w := by exact fun _ _ _ h => h)
    (hw : Region.wanted oi (yielded ops a.tmps) = true := by rfl) (hy : ∀ w, T w → (execOp a.eval oi).run P w = .ok (.value v) w := by intro w hSw; go_simp; first | rfl | rw [if_neg (by omega)]) : AnyG P md ops Q T U j0 (n + 1) l a w :=
  AnyG.tk i d hi hd hb hQ hT hw hy h
/-- Taken by what U says, ahead of the first store. -/
theorem AnyG.er (i d : Nat) (hT : T w ∧ (l.getD j0 true = false → U w)) (h : AnyG P md ops Q T U j0 n (l.setIfInBounds i true) ⟨a.tmps.setIfInBounds d v, a.defers⟩ w)
    (hi : ops[i]? = some oi := by rfl) (hd : oi.dst = some d := by rfl) (hb : (Rok md ops l i j0 && (waits md ops j0 i && !(l.getD j0 true))) = true := by kernel_rfl) (hQ : ∀ c a w, Q (.panic c) (a.put oi.dst v) w → Q (.panic c) a w := by exact fun _ _ _ h => h)
    (hw : Region.wanted oi (yielded ops a.tmps) = true := by rfl) (hy : ∀ w, T w ∧ U w → (execOp a.eval oi).run P w = .ok (.value v) w) : AnyG P md ops Q T U j0 (n + 1) l a w :=
  AnyG.ek i d hi hd hb hQ hT hw hy h
end
end Go.Proofs.YtooaojegdhamjaaDoor
