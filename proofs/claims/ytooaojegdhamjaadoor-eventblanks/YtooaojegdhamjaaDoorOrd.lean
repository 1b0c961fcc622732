/-
  A region that draws its order, and reads a cell that it writes at its end: what is read before one named operation may be taken first.
-/
import Derived.Deep.RegionHeld
import Derived.Deep.RegionLaw
namespace Go.Proofs.YtooaojegdhamjaaDoor
open Go

section
variable {P : Program} {ops : Array Oper} {Q : Exit → Act → World → Prop} {md : Region.Mode} {T U : World → Prop} {j0 : Nat}

/-- Whatever order is picked: T holds behind each operation, and U as long as number j0 has not come up. -/
def AnyG (P : Program) (md : Region.Mode) (ops : Array Oper) (Q : Exit → Act → World → Prop) (T U : World → Prop) (j0 : Nat) : Nat → Array Bool → Act → World → Prop
  | 0, l, a, w => Region.ready md ops l = [] ∧ Q .normal a w
  | n + 1, l, a, w => (Region.ready md ops l = [] → Q .normal a w) ∧
    ∀ i ∈ Region.ready md ops l, wpOp P ops Q i (fun a' w' => (T w' ∧ ((l.setIfInBounds i true).getD j0 true = false → U w')) ∧ AnyG P md ops Q T U j0 n (l.setIfInBounds i true) a' w') a w

theorem AnyG.any : ∀ (n : Nat) (l : Array Bool) (a : Act) (w : World), AnyG P md ops Q T U j0 n l a w → wpAny P md ops Q n l a w
  | 0, _, _, _, h => h
  | n + 1, _, _, _, h => ⟨h.1, fun i hi => wpOp_mono (fun a' w' k => AnyG.any n _ a' w' k.2) (h.2 i hi)⟩

theorem AnyG.start {id : Nat} {a : Act} {w : World} (hm : P.follows .mixedOrders = true)
    (h : AnyG P .any ops Q T U j0 ops.size (Array.replicate ops.size false) a w.drew) : (Code.region id ops true).wp P Q a w :=
  wp_region_any hm (AnyG.any _ _ _ _ h)

/-- What may come up and yields in each world in which it can come up may be taken first. -/
theorem AnyG.first {i : Nat} {oi : Oper} {v : Value} {J : Array Bool → Prop} {V : World → Prop} (hi : ops[i]? = some oi) (hne : i ≠ j0)
    (hsel : ∀ (j : Nat) (o : Oper) cs b, ops[j]? = some o → o.op ≠ .select cs b) (hQ : ∀ c a w, Q (.panic c) (a.put oi.dst v) w → Q (.panic c) a w)
    (hJ : ∀ l j, J l → l.getD i true = false → j ∈ Region.ready md ops l → j ≠ i → J (l.setIfInBounds j true))
    (hV : ∀ l w, J l → T w → (l.getD j0 true = false → U w) → V w) :
    ∀ (n : Nat) (l : Array Bool) (a : Act) (w : World),
      (∀ j oj, ops[j]? = some oj → j ≠ i → l.getD j true = false → (∀ e ∈ oj.after, Region.binds md e = true → e.on ≠ i) → oi.apart ops oj = true) →
      i ∈ Region.ready md ops l → YieldsIf P ops V oi v a → J l → T w → (l.getD j0 true = false → U w) →
      AnyG P md ops Q T U j0 n (l.setIfInBounds i true) (a.put oi.dst v) w → AnyG P md ops Q T U j0 (n + 1) l a w := by
  intro n
  induction n with
  | zero =>
    intro l a w _ hr hy hj hT hU H
    refine ⟨fun h => absurd hr (by rw [h]; exact List.not_mem_nil), fun j hj' => ?_⟩
    by_cases c : j = i
    · subst c
      exact hy.wpOp hi (hV l w hj hT hU) ⟨⟨hT, fun h => hU (by rw [getD_set_ne true hne] at h; exact h)⟩, H⟩
    · have h1 := ready_mono hj' c
      rw [H.1] at h1
      cases h1
  | succ n ih =>
    intro l a w hf hr hy hj hT hU H
    refine ⟨fun h => absurd hr (by rw [h]; exact List.not_mem_nil), fun j hj' => ?_⟩
    by_cases c : j = i
    · subst c
      exact hy.wpOp hi (hV l w hj hT hU) ⟨⟨hT, fun h => hU (by rw [getD_set_ne true hne] at h; exact h)⟩, H⟩
    · have hun : l.getD i true = false := (mem_ready.1 hr).1
      have hj2 := hJ l j hj hun hj' c
      obtain ⟨hjl, oj, hoj, hall⟩ := mem_ready.1 hj'
      have hno : ∀ e ∈ oj.after, Region.binds md e = true → e.on ≠ i := fun e he hb hon => by
        have h1 := hall e he hb
        rw [hon] at h1
        rcases Nat.lt_or_ge i l.size with h' | h'
        · simp [h'] at h1 hun; rw [hun] at h1; cases h1
        · simp [Array.getElem?_eq_none h'] at h1
      have h2 := wpOp_putIf hoj (hf j oj hoj c hjl hno) (fun cs b => hsel i oi cs b hi) (fun cs b => hsel j oj cs b hoj) hQ hy (H.2 j (ready_mono hj' c))
      refine wpOp_mono (fun a' w' k => ?_) h2
      obtain ⟨k1, ⟨k2, k3⟩, k4⟩ := k
      have hU' : (l.setIfInBounds j true).getD j0 true = false → U w' := fun h => k3 (by
        rw [Array.setIfInBounds_comm _ _ (Ne.symm c), getD_set_ne true hne]; exact h)
      refine ⟨⟨k2, hU'⟩, ih (l.setIfInBounds j true) a' w' ?_ (ready_mono hr (Ne.symm c)) k1 hj2 k2 hU' (by rw [Array.setIfInBounds_comm _ _ c]; exact k4)⟩
      intro q oq hq hqi hql hqn
      refine hf q oq hq hqi ?_ hqn
      by_cases e : j = q
      · rw [← e]; exact hjl
      · rw [getD_set_ne true e] at hql; exact hql

/-- What yields in every world that meets T is taken first. -/
theorem AnyG.take {i : Nat} {oi : Oper} {v : Value} {n : Nat} {l : Array Bool} {a : Act} {w : World} (hi : ops[i]? = some oi)
    (hs : Region.noSelect ops = true) (hf : Region.free md ops l i = true) (hr : (Region.ready md ops l).contains i = true) (hne : i ≠ j0)
    (hQ : ∀ c a w, Q (.panic c) (a.put oi.dst v) w → Q (.panic c) a w) (hy : YieldsIf P ops T oi v a) (hT : T w ∧ (l.getD j0 true = false → U w))
    (h : AnyG P md ops Q T U j0 n (l.setIfInBounds i true) (a.put oi.dst v) w) : AnyG P md ops Q T U j0 (n + 1) l a w :=
  AnyG.first (J := fun _ => True) (V := T) hi hne (Region.noSelect_spec hs) hQ (fun _ _ _ _ _ _ => trivial) (fun _ _ _ h _ => h) n l a w (Region.free_spec hi hf) (by simpa using hr) hy trivial hT.1 hT.2 h

/-- Does number j wait for number i? -/
def waits (md : Region.Mode) (ops : Array Oper) (j i : Nat) : Bool := match ops[j]? with
  | some o => o.after.any (fun e => Region.binds md e && e.on == i)
  | none => false

/-- What yields in every world that meets T and U, and is waited for by number j0, is taken first. -/
theorem AnyG.early {i : Nat} {oi : Oper} {v : Value} {n : Nat} {l : Array Bool} {a : Act} {w : World} (hi : ops[i]? = some oi)
    (hs : Region.noSelect ops = true) (hf : Region.free md ops l i = true) (hr : (Region.ready md ops l).contains i = true) (hne : i ≠ j0) (hw : waits md ops j0 i = true) (hl : l.getD j0 true = false)
    (hQ : ∀ c a w, Q (.panic c) (a.put oi.dst v) w → Q (.panic c) a w) (hy : YieldsIf P ops (fun w => T w ∧ U w) oi v a) (hT : T w ∧ (l.getD j0 true = false → U w))
    (h : AnyG P md ops Q T U j0 n (l.setIfInBounds i true) (a.put oi.dst v) w) : AnyG P md ops Q T U j0 (n + 1) l a w := by
  refine AnyG.first (J := fun l => l.getD j0 true = false) (V := fun w => T w ∧ U w) hi hne (Region.noSelect_spec hs) hQ (fun l j hj hun hj' _ => ?_) (fun l w hj hT hU => ⟨hT, hU hj⟩) n l a w (Region.free_spec hi hf) (by simpa using hr) hy hl hT.1 hT.2 h
  by_cases e : j = j0
  · subst e
    obtain ⟨_, oj, hoj, hall⟩ := mem_ready.1 hj'
    unfold waits at hw
    rw [hoj] at hw
    obtain ⟨e, he, hb⟩ := Array.any_eq_true'.1 hw
    simp only [Bool.and_eq_true, beq_iff_eq] at hb
    have h1 := hall e he hb.1
    rw [hb.2] at h1
    rcases Nat.lt_or_ge i l.size with h' | h'
    · simp [h'] at h1 hun; rw [hun] at h1; cases h1
    · simp [Array.getElem?_eq_none h'] at h1
  · rw [getD_set_ne true e]; exact hj

theorem put_at {a : Act} {x : Option Tmp} {d : Tmp} (h : x = some d) (v : Value) : a.put x v = ⟨a.tmps.setIfInBounds d v, a.defers⟩ := by subst h; rfl
/-- The two, with the place of the value told. -/
theorem AnyG.takeAt (i d : Nat) {oi : Oper} {v : Value} {n : Nat} {l : Array Bool} {a : Act} {w : World} (hi : ops[i]? = some oi) (hd : oi.dst = some d)
    (hs : Region.noSelect ops = true) (hf : Region.free md ops l i = true) (hr : (Region.ready md ops l).contains i = true) (hne : i ≠ j0)
    (hQ : ∀ c a w, Q (.panic c) (a.put oi.dst v) w → Q (.panic c) a w) (hT : T w ∧ (l.getD j0 true = false → U w)) (hw : Region.wanted oi (yielded ops a.tmps) = true)
    (hy : ∀ w, T w → (execOp a.eval oi).run P w = .ok (.value v) w)
    (h : AnyG P md ops Q T U j0 n (l.setIfInBounds i true) ⟨a.tmps.setIfInBounds d v, a.defers⟩ w) : AnyG P md ops Q T U j0 (n + 1) l a w :=
  AnyG.take hi hs hf hr hne hQ (.inl ⟨hw, hy⟩) hT (by rw [put_at hd]; exact h)
theorem AnyG.earlyAt (i d : Nat) {oi : Oper} {v : Value} {n : Nat} {l : Array Bool} {a : Act} {w : World} (hi : ops[i]? = some oi) (hd : oi.dst = some d)
    (hs : Region.noSelect ops = true) (hf : Region.free md ops l i = true) (hr : (Region.ready md ops l).contains i = true) (hne : i ≠ j0) (hwt : waits md ops j0 i = true) (hl : l.getD j0 true = false)
    (hQ : ∀ c a w, Q (.panic c) (a.put oi.dst v) w → Q (.panic c) a w) (hT : T w ∧ (l.getD j0 true = false → U w)) (hw : Region.wanted oi (yielded ops a.tmps) = true)
    (hy : ∀ w, T w ∧ U w → (execOp a.eval oi).run P w = .ok (.value v) w)
    (h : AnyG P md ops Q T U j0 n (l.setIfInBounds i true) ⟨a.tmps.setIfInBounds d v, a.defers⟩ w) : AnyG P md ops Q T U j0 (n + 1) l a w :=
  AnyG.early hi hs hf hr hne hwt hl hQ (.inl ⟨hw, hy⟩) hT (by rw [put_at hd]; exact h)

theorem AnyG.putAt {n : Nat} {l : Array Bool} {a : Act} {w : World} {x : Option Tmp} {v : Value} (d : Nat) (hd : x = some d)
    (h : AnyG P md ops Q T U j0 n l ⟨a.tmps.setIfInBounds d v, a.defers⟩ w) : AnyG P md ops Q T U j0 n l (a.put x v) w := by rw [put_at hd]; exact h

/-- One after another of those that may come up. -/
def AllG (P : Program) (md : Region.Mode) (ops : Array Oper) (Q : Exit → Act → World → Prop) (T U : World → Prop) (j0 n : Nat) (l : Array Bool) (a : Act) (w : World) (rs : List Nat) : Prop :=
  ∀ i ∈ rs, wpOp P ops Q i (fun a' w' => (T w' ∧ ((l.setIfInBounds i true).getD j0 true = false → U w')) ∧ AnyG P md ops Q T U j0 n (l.setIfInBounds i true) a' w') a w
theorem AllG.nil {n : Nat} {l : Array Bool} {a : Act} {w : World} : AllG P md ops Q T U j0 n l a w [] := fun _ h => by cases h
theorem AllG.cons {n : Nat} {l : Array Bool} {a : Act} {w : World} {i : Nat} {o : Oper} {rs : List Nat} (ho : ops[i]? = some o)
    (h : ∀ K' : Act → World → Prop, Shut (∀ a w, (T w ∧ ((l.setIfInBounds i true).getD j0 true = false → U w)) → AnyG P md ops Q T U j0 n (l.setIfInBounds i true) a w → K' a w) → if Region.wanted o (yielded ops a.tmps) = true then Oper.wp P o a w K' Q else K' (a.put o.dst undef) w)
    (hs : AllG P md ops Q T U j0 n l a w rs) : AllG P md ops Q T U j0 n l a w (i :: rs) := fun j hj => by
  rcases List.mem_cons.1 hj with rfl | hj
  · exact wpOp_step ho (fun K' hK => h K' (fun a w h1 h2 => hK a w ⟨h1, h2⟩))
  · exact hs j hj
theorem AnyG.ready {rs : List Nat} {n : Nat} {l : Array Bool} {a : Act} {w : World} (hr : Region.ready md ops l = rs) (hne : rs ≠ [])
    (h : AllG P md ops Q T U j0 n l a w rs) : AnyG P md ops Q T U j0 (n + 1) l a w := ⟨fun h0 => absurd (hr ▸ h0) hne, hr ▸ h⟩
theorem AnyG.done {l : Array Bool} {a : Act} {w : World} (hr : Region.ready md ops l = []) (h : Q .normal a w) : ∀ n, AnyG P md ops Q T U j0 n l a w
  | 0 => ⟨hr, h⟩
  | _ + 1 => ⟨fun _ => h, by rw [hr]; intro i hi; cases hi⟩
end
end Go.Proofs.YtooaojegdhamjaaDoor
