/-
  Schemas put behind one another in memory of the call's own. Condition: they lie in memory, and are few.
-/
import Derived.Test.YtijjpblmnlednaaRowS
namespace Go.Proofs.Ytijjpblmnlednaa
open Go.RowKit

/-- A list of schemas, laid behind the world w0. -/
structure Few (w0 w : World) (v : Value) (T : List Sc) : Prop where
  ex : ∃ V, V.length = T.length ∧ w.ownsRow w0.heap.size 46 5 v T.length (scCs T V) ∧ ∀ k (h : k < T.length) (h' : k < V.length), RlR w0 V[k] T[k].rules
  bel : Below w0.heap.size w0 w
theorem Few.nil (w : World) : Few w w (.slice none 0 0) [] := ⟨⟨[], rfl, ⟨rfl, .inl ⟨rfl, rfl⟩⟩, fun _ h => absurd h (Nat.not_lt_zero _)⟩, Below.refl _ _⟩
theorem Few.start {w0 w : World} (b : Below w0.heap.size w0 w) : Few w0 (w.alloc (.cells #[] 46)) (.slice (some ⟨w.heap.size, 0, none⟩) 0 0) [] :=
  ⟨⟨[], rfl, ⟨rfl, .inr ⟨w.heap.size, 0, #[], rfl, b.size, Blk.new w 46 #[], Nat.le_refl _, Nat.zero_le _, rfl, rfl⟩⟩, fun _ h => absurd h (Nat.not_lt_zero _)⟩, b.trans ((alloc_below _ _).mono b.size)⟩
theorem Few.keep {w0 w w' : World} {v : Value} {T : List Sc} (h : Few w0 w v T) (b : Below w.heap.size w w') : Few w0 w' v T := by
  obtain ⟨V, hV, ho, hR⟩ := h.ex
  exact ⟨⟨V, hV, owns_off ho (Kept.of_below b (fun _ => False)) (Off.none _ _), hR⟩, h.bel.trans (b.mono h.bel.size)⟩
/-- How it is read. -/
theorem Few.ss {w0 w : World} {v : Value} {T : List Sc} (h : Few w0 w v T) (hl : T.length ≤ 1000) (hn : ∀ s ∈ T, s.name.size ≤ 9223372036854775807 ∧ s.level.size ≤ 9223372036854775807) : SsR w v T := by
  obtain ⟨V, hV, ho, hR⟩ := h.ex
  obtain ⟨a, c, rfl, hc, hr⟩ := owns_read ho
  refine ⟨⟨a, c, V, rfl, by omega, hV, fun hp => ?_, fun k h1 h2 => (hR k h1 h2).carry h.bel⟩, hn⟩
  obtain ⟨g, cur, rfl, hB, hg, hs, hx⟩ := hr hp
  refine ⟨g, 0, rfl, hg.lt, fun k h1 h2 j hj => ?_⟩
  have e := scCs_at T V k j h1 h2 hj
  have hl5 : (scC T[k] V[k]).length = 5 := rfl
  have e2 : (scC T[k] V[k])[j]? = some (scC T[k] V[k])[j] := List.getElem?_eq_getElem (by omega)
  rw [e2] at e ⊢
  have := hx _ _ e
  rw [show 0 + k * 5 + j = k * 5 + j by omega]
  exact this
theorem Few.shape {w0 w : World} {v : Value} {T : List Sc} (h : Few w0 w v T) : ∃ a c, v = .slice a T.length c ∧ T.length ≤ c := by
  obtain ⟨V, hV, ho, hR⟩ := h.ex
  obtain ⟨a, c, rfl, hc, hr⟩ := owns_read ho
  exact ⟨a, c, rfl, hc⟩
theorem scCs_ones : ∀ (D : List Sc) (V : List Value), (∀ v ∈ V, v.oneCell' = true) → ∀ u ∈ scCs D V, u.oneCell' = true
  | [], _, _, u, hu => by simp [scCs] at hu
  | _ :: _, [], _, u, hu => by simp [scCs] at hu
  | s :: D, v :: V, h, u, hu => by
    simp only [scCs, List.mem_append] at hu
    rcases hu with hu | hu
    · simp only [scC, List.mem_cons, List.not_mem_nil, or_false] at hu
      rcases hu with rfl | rfl | rfl | rfl | rfl
      · rfl
      · rfl
      · rfl
      · rfl
      · exact h _ (List.mem_cons.2 (.inl rfl))
    · exact scCs_ones D V (fun x hx => h x (List.mem_cons_of_mem _ hx)) u hu

/-- append at the operation. -/
theorem wp_few {ops : Array Oper} {rest : List Oper} {o : Oper} {a : Act} {Q : Exit → Act → World → Prop} {w0 w : World} (hgd : o.guard = none) (sl x : Operand)
    (ho : o.op = .call { callee := .builtin .append, args := #[sl, x], argTypes := #[22, 22] })
    {v : Value} {T : List Sc} (hs : a.eval sl = v) (h : Few w0 w v T) {aB : Option Addr} {m c : Nat} {D : List Sc} {VD : List Value} (hx : a.eval x = .slice aB m c) (hm : m = D.length) (hN : aB = none → m = 0 ∧ c = 0) (hV : VD.length = D.length)
    (hS : ScR w aB D VD) (hR : ∀ k (h : k < D.length) (h' : k < VD.length), RlR w0 VD[k] D[k].rules) (hn : T.length + D.length ≤ 1000)
    (k : ∀ v' w', Few w0 w' v' (T ++ D) → wpList Try.prog ops Q rest (a.put o.dst v') w') : wpList Try.prog ops Q (o :: rest) a w := by
  obtain ⟨i0, hi, hz0, hz1, hz2⟩ := info_parts info34
  obtain ⟨V, hVl, hw, hRV⟩ := h.ex
  cases aB with
  | none =>
    obtain ⟨m0, c0⟩ := hN rfl
    subst c0
    have hD : D = [] := List.length_eq_zero_iff.1 (by omega)
    subst hD
    refine wpList_append_own_none hgd sl x 22 ho w0.heap.size 46 i0 5 Try.underlying22 hi v _ _ hs hw (by rw [hx, m0]) ?_
    refine k _ _ ?_
    rw [List.append_nil]
    exact h
  | some ad =>
    have NW : ∀ j u, (scCs D VD)[j]? = some u → w.cell? (ad.add j) = some u := fun j u hu => by
      have hj : j < D.length * 5 := by
        have := (List.getElem?_eq_some_iff.1 hu).1
        rwa [scCs_len D VD hV] at this
      obtain ⟨b, off, e, hb, hcs⟩ := hS (by omega)
      injection e with e
      subst e
      rw [Go.WideShapes.add_plain]
      have h1 : j / 5 < D.length := by omega
      have e1 := scCs_at D VD (j / 5) (j % 5) h1 (by omega) (by omega)
      have e2 := hcs (j / 5) h1 (by omega) (j % 5) (by omega)
      rw [show j / 5 * 5 + j % 5 = j by omega] at e1
      rw [show off + j / 5 * 5 + j % 5 = off + j by omega] at e2
      rw [e2, ← e1, hu]
    have O1 : ∀ u ∈ scCs D VD, u.oneCell' = true := scCs_ones D VD fun u hu => by
      obtain ⟨j, hj, rfl⟩ := List.getElem_of_mem hu
      obtain ⟨a1, c1, e1, -⟩ := hR j (by omega) hj
      rw [e1]
      rfl
    refine wpList_append_own w hgd sl x 22 ho w0.heap.size 46 i0 _ 5 72 Try.underlying22 hi hz0 hz1 hz2 rfl (by decide) v _ _ hs hw ad m c (scCs D VD) hx (by rw [scCs_len D VD hV, hm]) NW O1 (by unfold maxLen; omega) (by omega) h.bel.size (fun v' w' ho' hgr _ => k v' w' ?_)
    have K : Kept (fun k => v.ownBlock = some k) w w' := Kept.of_grown hgr (fun _ h => h)
    refine ⟨⟨V ++ VD, by simp [hVl, hV], ?_, fun j h1 h2 => ?_⟩, h.bel.trans (K.below h.bel.size (fun g hg => (hw.lt g hg).1))⟩
    · rw [scCs_append _ _ _ _ hVl, List.length_append, ← hm]
      exact ho'
    · by_cases e : j < T.length
      · rw [List.getElem_append_left e, List.getElem_append_left (by omega)]
        exact hRV j e (by omega)
      · simp only [List.length_append] at h1 h2
        rw [List.getElem_append_right (by omega), List.getElem_append_right (by omega)]
        simp only [hVl]
        exact hR (j - T.length) (by omega) (by omega)
theorem findS_app {S D : List Sc} {q : Rq} {s : Sc} (h : findS S q = some s) : findS (S ++ D) q = some s := by
  unfold findS at h ⊢
  rw [List.find?_append, h]
  rfl
def fewS (S : List Sc) (q : Rq) : List Sc := S.filter fun s => schB s.rules q
theorem fewS_none {S : List Sc} {q : Rq} (h : findS S q = none) : fewS S q = [] := by
  unfold findS at h
  unfold fewS
  rw [List.find?_eq_none] at h
  rw [List.filter_eq_nil_iff]
  exact h
theorem fewS_some : ∀ {S : List Sc} {q : Rq} {s : Sc}, findS S q = some s → ∃ r, fewS S q = s :: r
  | [], q, s, h => by simp [findS] at h
  | x :: S, q, s, h => by
    unfold findS at h
    unfold fewS
    cases hb : schB x.rules q with
    | true =>
      rw [List.find?_cons, hb] at h
      injection h with h
      subst h
      exact ⟨S.filter fun s => schB s.rules q, by rw [List.filter_cons, hb]; rfl⟩
    | false =>
      rw [List.find?_cons, hb] at h
      obtain ⟨r, hr⟩ := fewS_some (S := S) (q := q) (s := s) h
      refine ⟨r, ?_⟩
      rw [List.filter_cons, hb]
      exact hr
theorem findS_few (S : List Sc) (q : Rq) : findS (fewS S q) q = findS S q := by
  cases h : findS S q with
  | none => rw [fewS_none h]; rfl
  | some s =>
    obtain ⟨r, hr⟩ := fewS_some h
    have hs : schB s.rules q = true := by
      unfold findS at h
      have := List.find?_some h
      simpa using this
    rw [hr]
    unfold findS
    rw [List.find?_cons, hs]
/-- One more is looked at. -/
theorem few_take {S : List Sc} {q : Rq} {k : Nat} (h : k < S.length) : fewS (S.take (k + 1)) q = fewS (S.take k) q ++ if schB S[k].rules q = true then [S[k]] else [] := by
  unfold fewS
  rw [List.take_add_one, List.getElem?_eq_getElem h, Option.toList_some, List.filter_append]
  congr 1
  by_cases c : schB S[k].rules q = true
  · rw [if_pos c, List.filter_cons, c]; rfl
  · rw [if_neg c, List.filter_cons]
    simp [c]
theorem few_len (S : List Sc) (q : Rq) : (fewS S q).length ≤ S.length := List.length_filter_le _ _
end Go.Proofs.Ytijjpblmnlednaa
