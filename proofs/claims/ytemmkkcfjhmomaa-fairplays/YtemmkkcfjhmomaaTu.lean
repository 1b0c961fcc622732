/-
  What turns leave: three rows of the call's own beside a box; how they grow, and how they are read. No condition.
-/
import Derived.Test.YtemmkkcfjhmomaaRm
namespace Go.Proofs.Ytemmkkcfjhmomaa
open Go.RowKit

theorem StR.step {S T : Nat → Prop} {w w2 : World} {a : Option Addr} {c : Nat} {F : List Ln} (h : StR S w a c F) (k : Kept S w w2) (e : ∀ j, j < w.heap.size → T j → S j) : StR T w2 a c F := by
  obtain ⟨h1, h2, Z, h3, h4⟩ := h
  exact ⟨h1, h2, Z, h3, fun W kk => h4 W (k.then kk e)⟩
/-- Numbers in a row. -/
def icC (f : Nat → Int) (n : Nat) : List Value := (List.range n).map fun j => .int .i64 (f j)
theorem icC_succ (f : Nat → Int) (n : Nat) : icC f n ++ [.int .i64 (f n)] = icC f (n + 1) := by simp [icC, List.range_succ]
theorem icC_get (f : Nat → Int) (n j : Nat) (h : j < n) : (icC f n)[j]? = some (.int .i64 (f j)) := by simp [icC, h]
/-- A fair, and where its lanes lie. -/
abbrev Xz := Fa × Option Addr × Nat
def xC (z : Xz) : List Value := [.int .u64 z.1.r, .int .i64 z.1.g, .int .i64 z.1.n, .int .i64 z.1.o, .slice z.2.1 z.1.F.length z.2.2]
def xCs (Z : List Xz) : List Value := Z.flatMap xC
theorem xCs_cons (z : Xz) (Z : List Xz) : xCs (z :: Z) = xC z ++ xCs Z := by simp [xCs]
theorem xCs_snoc (Z : List Xz) (z : Xz) : xCs (Z ++ [z]) = xCs Z ++ xC z := by simp [xCs]
theorem xCs_at : ∀ (Z : List Xz) (k : Nat) (z : Xz), Z[k]? = some z → ∀ j, j < 5 → (xCs Z)[k * 5 + j]? = (xC z)[j]?
  | [], k, z, h, _, _ => by simp at h
  | y :: Z, 0, z, h, j, hj => by
    simp at h
    subst h
    rw [xCs_cons, List.getElem?_append_left (by simp [xC]; omega)]
    simp
  | y :: Z, k + 1, z, h, j, hj => by
    rw [xCs_cons, List.getElem?_append_right (by simp [xC]; omega)]
    rw [← xCs_at Z k z (by simpa using h) j hj]
    congr 1
    simp [xC]; omega
/-- The blocks that may turn. -/
def Mv (A : Nat) (va vf vw : Value) (j : Nat) : Prop := j = A ∨ va.ownBlock = some j ∨ vf.ownBlock = some j ∨ vw.ownBlock = some j
/-- A box, and three rows behind it. -/
structure RnI (w W : World) (A : Nat) (x : Fa) (f : Nat → Fa) (p r : Nat → Int) (ka kf kw : Nat) (va vf vw : Value) : Prop where
  bel : Below w.heap.size w W
  lA : w.heap.size ≤ A
  box : ∃ a c, Blk W A 25 (faA x.r x.g x.n x.o (.slice a x.F.length c)) ∧ StR (Mv A va vf vw) W a c x.F
  all : ∃ Z : List Xz, W.ownsRow (A + 1) 25 5 va ka (xCs Z) ∧ Z.length = ka ∧ (∀ i z, Z[i]? = some z → z.1 = f i) ∧ ∀ z ∈ Z, StR (Mv A va vf vw) W z.2.1 z.2.2 z.1.F
  frm : W.ownsRow (A + 1) 3 1 vf kf (icC p kf)
  wid : W.ownsRow (A + 1) 3 1 vw kw (icC r kw)
  ap : ∀ j, vf.ownBlock = some j → vw.ownBlock = some j → False
theorem own_apart {W : World} {B B' t t' m m' n n' : Nat} {v v' : Value} {cs ds : List Value} (h : W.ownsRow B t m v n cs) (h' : W.ownsRow B' t' m' v' n' ds) (e : t ≠ t') (j : Nat) (e1 : v.ownBlock = some j) (e2 : v'.ownBlock = some j) : False := by
  rcases h.2 with ⟨rfl, -⟩ | ⟨g, cap, cur, rfl, -, hg, -⟩
  · cases e1
  · rcases h'.2 with ⟨rfl, -⟩ | ⟨g', cap', cur', rfl, -, hg', -⟩
    · cases e2
    · injection e1 with e1
      injection e2 with e2
      have e1 : g = j := e1
      have e2 : g' = j := e2
      subst e1
      subst e2
      rw [hg] at hg'
      injection hg' with hg'
      injection hg' with x1 x2 x3
      exact e x2
section
variable {w W : World} {A : Nat} {x : Fa} {f : Nat → Fa} {p r : Nat → Int} {ka kf kw : Nat} {va vf vw : Value}
theorem RnI.lt (h : RnI w W A x f p r ka kf kw va vf vw) : A < W.heap.size := by
  obtain ⟨a, c, k, -⟩ := h.box
  exact k.lt
theorem RnI.mv (h : RnI w W A x f p r ka kf kw va vf vw) : ∀ j, Mv A va vf vw j → j < W.heap.size := fun j e => by
  rcases e with rfl | e | e | e
  · exact h.lt
  · obtain ⟨Z, ho, -⟩ := h.all
    exact (ho.lt j e).2
  · exact (h.frm.lt j e).2
  · exact (h.wid.lt j e).2
theorem RnI.carry (h : RnI w W A x f p r ka kf kw va vf vw) {W' : World} (b : Below W.heap.size W W') : RnI w W' A x f p r ka kf kw va vf vw := by
  obtain ⟨a, c, k1, k2⟩ := h.box
  obtain ⟨Z, z1, z2, z3, z4⟩ := h.all
  have K : Kept (fun _ => False) W W' := Kept.of_below b _
  have K2 : Kept (Mv A va vf vw) W W' := Kept.of_below b _
  exact ⟨h.bel.trans (b.mono h.bel.size), h.lA, ⟨a, c, k1.kept K id, k2.step K2 (fun _ _ e => e)⟩, ⟨Z, ownsRow_kept z1 K (fun _ _ e => e), z2, z3, fun z hz => (z4 z hz).step K2 (fun _ _ e => e)⟩, ownsRow_kept h.frm K (fun _ _ e => e), ownsRow_kept h.wid K (fun _ _ e => e), h.ap⟩
/-- Another fair is put into the box. -/
theorem RnI.put (h : RnI w W A x f p r ka kf kw va vf vw) {W' : World} {y : Fa} {a : Option Addr} {c : Nat} (k : Kept (fun j => j = A) W W') (hb : Blk W' A 25 (faA y.r y.g y.n y.o (.slice a y.F.length c))) (hy : StR (Mv A va vf vw) W a c y.F) : RnI w W' A y f p r ka kf kw va vf vw := by
  obtain ⟨Z, z1, z2, z3, z4⟩ := h.all
  have K2 : Kept (Mv A va vf vw) W W' := k.mono (fun j _ e => .inl e)
  have lA := h.lA
  exact ⟨h.bel.trans (k.below h.bel.size (fun j e => by omega)), h.lA, ⟨a, c, hb, hy.step K2 (fun _ _ e => e)⟩, ⟨Z, ownsRow_kept z1 k (fun j e e2 => by have := (z1.lt j e).1; omega), z2, z3, fun z hz => (z4 z hz).step K2 (fun _ _ e => e)⟩, ownsRow_kept h.frm k (fun j e e2 => by have := (h.frm.lt j e).1; omega), ownsRow_kept h.wid k (fun j e e2 => by have := (h.wid.lt j e).1; omega), h.ap⟩
theorem Try.info25 : (Try.prog.info? 25).map (fun i => (i.zero, i.size, i.bytes)) = some (some (.agg #[.int .u64 0, .int .i64 0, .int .i64 0, .int .i64 0, .slice none 0 0]), 5, 56) := by kernel_rfl
theorem Try.info3 : (Try.prog.info? 3).map (fun i => (i.zero, i.size, i.bytes)) = some (some (.int .i64 0), 1, 8) := by kernel_rfl
variable {ops : Array Oper} {rest : List Oper} {o : Oper} {a : Act} {Q : Exit → Act → World → Prop}
/-- What is in the box is appended to the first row. -/
theorem wpl_pushA (hgd : o.guard = none) (s y : Operand) (ho : o.op = .call { callee := .builtin .append, args := #[s, y], argTypes := #[58, 58] })
    (h : RnI w W A x f p r ka kf kw va vf vw) (hs : a.eval s = va) (q : Nat) (a' : Option Addr) (c' : Nat) (hy : a.eval y = .slice (some ⟨q, 0, none⟩) 1 1) (hq : Blk W q 25 (faA x.r x.g x.n x.o (.slice a' x.F.length c'))) (hst : StR (Mv A va vf vw) W a' c' x.F) (hk : ka ≤ 5000) (hf : f ka = x)
    (hc : ∀ g cap W', RnI w W' A x f p r (ka + 1) kf kw (.slice (some ⟨g, 0, none⟩) (ka + 1) cap) vf vw → wpList Try.prog ops Q rest (a.put o.dst (.slice (some ⟨g, 0, none⟩) (ka + 1) cap)) W') : wpList Try.prog ops Q (o :: rest) a W := by
  obtain ⟨i0, hi, hz0, hz1, hz2⟩ := info_parts Try.info25
  obtain ⟨Z, z1, z2, z3, z4⟩ := h.all
  obtain ⟨ab, cb, k1, k2⟩ := h.box
  have hlt := k1.lt
  refine wpList_append_lies _ hgd s y 58 ho (A + 1) 25 i0 (.agg #[.int .u64 0, .int .i64 0, .int .i64 0, .int .i64 0, .slice none 0 0]) 5 56 Try.underlying58 hi hz0 hz1 hz2 rfl (by decide) va ka (xCs Z) hs z1 ⟨q, 0, none⟩ 1 1 (xC (x, a', c')) hy rfl (fun j u hj => ?_) (fun u hu => ?_) (by decide) (by unfold maxLen; omega) (by omega) (by omega) _ rfl ?_
  · rw [Go.WideShapes.add_plain]
    have := hq.cell (0 + j)
    rw [this]
    simpa [faA, xC] using hj
  · simp [xC] at hu
    rcases hu with rfl | rfl | rfl | rfl | rfl <;> rfl
  · intro g cap W' hown hg hat hgl
    have K : Kept (fun j => va.ownBlock = some j) W W' := Kept.of_grown hg (fun _ e => e)
    have K2 : Kept (Mv A va vf vw) W W' := K.mono (fun j _ e => .inr (.inl e))
    have E : ∀ j, j < W.heap.size → Mv A (.slice (some ⟨g, 0, none⟩) (ka + 1) cap) vf vw j → Mv A va vf vw j := fun j hj e => by
      rcases e with e | e | e | e
      · exact .inl e
      · have e : g = j := by injection e
        subst e
        rcases hat with c | c
        · exact .inr (.inl c)
        · omega
      · exact .inr (.inr (.inl e))
      · exact .inr (.inr (.inr e))
    refine hc g cap W' ⟨h.bel.grown hg h.bel.size (fun q e => by have := (z1.lt q e).1; have := h.lA; omega), h.lA, ⟨ab, cb, k1.kept K (fun e => by have := (z1.lt A e).1; omega), k2.step K2 E⟩, ⟨Z ++ [(x, a', c')], by rw [xCs_snoc]; exact hown, by rw [List.length_append, z2]; rfl, fun i z hi => ?_, fun z hz => ?_⟩, ownsRow_kept h.frm K (fun j e1 e2 => own_apart z1 h.frm (by decide) j e2 e1), ownsRow_kept h.wid K (fun j e1 e2 => own_apart z1 h.wid (by decide) j e2 e1), h.ap⟩
    · rcases Nat.lt_or_ge i Z.length with c | c
      · rw [List.getElem?_append_left c] at hi
        exact z3 i z hi
      · rw [List.getElem?_append_right c] at hi
        have e : i - Z.length = 0 := by
          rcases Nat.eq_zero_or_pos (i - Z.length) with e | e
          · exact e
          · rw [List.getElem?_eq_none (by simp; omega)] at hi; cases hi
        rw [e] at hi
        injection hi with hi
        rw [← hi, show i = ka from by omega, hf]
    · rcases List.mem_append.1 hz with c | c
      · exact (z4 z c).step K2 E
      · rw [List.mem_singleton.1 c]
        exact hst.step K2 E
theorem wpl_pushF (hgd : o.guard = none) (s y : Operand) (ho : o.op = .call { callee := .builtin .append, args := #[s, y], argTypes := #[26, 26] })
    (h : RnI w W A x f p r ka kf kw va vf vw) (hs : a.eval s = vf) (q : Nat) (hy : a.eval y = .slice (some ⟨q, 0, none⟩) 1 1) (hq : Blk W q 3 #[.int .i64 (p kf)]) (hk : kf ≤ 5000)
    (hc : ∀ g cap W', RnI w W' A x f p r ka (kf + 1) kw va (.slice (some ⟨g, 0, none⟩) (kf + 1) cap) vw → wpList Try.prog ops Q rest (a.put o.dst (.slice (some ⟨g, 0, none⟩) (kf + 1) cap)) W') : wpList Try.prog ops Q (o :: rest) a W := by
  obtain ⟨i0, hi, hz0, hz1, hz2⟩ := info_parts Try.info3
  obtain ⟨Z, z1, z2, z3, z4⟩ := h.all
  obtain ⟨ab, cb, k1, k2⟩ := h.box
  have hlt := k1.lt
  refine wpList_append_lies _ hgd s y 26 ho (A + 1) 3 i0 (.int .i64 0) 1 8 Try.underlying26 hi hz0 hz1 hz2 rfl (by decide) vf kf (icC p kf) hs h.frm ⟨q, 0, none⟩ 1 1 [.int .i64 (p kf)] hy rfl (fun j u hj => ?_) (fun u hu => ?_) (by decide) (by unfold maxLen; omega) (by omega) (by omega) _ rfl ?_
  · rw [Go.WideShapes.add_plain]
    have := hq.cell (0 + j)
    rw [this]
    simpa using hj
  · rw [List.mem_singleton.1 hu]; rfl
  · intro g cap W' hown hg hat hgl
    rw [icC_succ] at hown
    have K : Kept (fun j => vf.ownBlock = some j) W W' := Kept.of_grown hg (fun _ e => e)
    have K2 : Kept (Mv A va vf vw) W W' := K.mono (fun j _ e => .inr (.inr (.inl e)))
    have E : ∀ j, j < W.heap.size → Mv A va (.slice (some ⟨g, 0, none⟩) (kf + 1) cap) vw j → Mv A va vf vw j := fun j hj e => by
      rcases e with e | e | e | e
      · exact .inl e
      · exact .inr (.inl e)
      · have e : g = j := by injection e
        subst e
        rcases hat with c | c
        · exact .inr (.inr (.inl c))
        · omega
      · exact .inr (.inr (.inr e))
    refine hc g cap W' ⟨h.bel.grown hg h.bel.size (fun q e => by have := (h.frm.lt q e).1; have := h.lA; omega), h.lA, ⟨ab, cb, k1.kept K (fun e => by have := (h.frm.lt A e).1; omega), k2.step K2 E⟩, ⟨Z, ownsRow_kept z1 K (fun j e1 e2 => own_apart z1 h.frm (by decide) j e1 e2), z2, z3, fun z hz => (z4 z hz).step K2 E⟩, hown, ownsRow_kept h.wid K (fun j e1 e2 => h.ap j e2 e1), fun j e1 e2 => ?_⟩
    have e1 : g = j := by injection e1
    subst e1
    rcases hat with c | c
    · exact h.ap g c e2
    · have := (h.wid.lt g e2).2
      omega
theorem wpl_pushW (hgd : o.guard = none) (s y : Operand) (ho : o.op = .call { callee := .builtin .append, args := #[s, y], argTypes := #[26, 26] })
    (h : RnI w W A x f p r ka kf kw va vf vw) (hs : a.eval s = vw) (q : Nat) (hy : a.eval y = .slice (some ⟨q, 0, none⟩) 1 1) (hq : Blk W q 3 #[.int .i64 (r kw)]) (hk : kw ≤ 5000)
    (hc : ∀ g cap W', RnI w W' A x f p r ka kf (kw + 1) va vf (.slice (some ⟨g, 0, none⟩) (kw + 1) cap) → wpList Try.prog ops Q rest (a.put o.dst (.slice (some ⟨g, 0, none⟩) (kw + 1) cap)) W') : wpList Try.prog ops Q (o :: rest) a W := by
  obtain ⟨i0, hi, hz0, hz1, hz2⟩ := info_parts Try.info3
  obtain ⟨Z, z1, z2, z3, z4⟩ := h.all
  obtain ⟨ab, cb, k1, k2⟩ := h.box
  have hlt := k1.lt
  refine wpList_append_lies _ hgd s y 26 ho (A + 1) 3 i0 (.int .i64 0) 1 8 Try.underlying26 hi hz0 hz1 hz2 rfl (by decide) vw kw (icC r kw) hs h.wid ⟨q, 0, none⟩ 1 1 [.int .i64 (r kw)] hy rfl (fun j u hj => ?_) (fun u hu => ?_) (by decide) (by unfold maxLen; omega) (by omega) (by omega) _ rfl ?_
  · rw [Go.WideShapes.add_plain]
    have := hq.cell (0 + j)
    rw [this]
    simpa using hj
  · rw [List.mem_singleton.1 hu]; rfl
  · intro g cap W' hown hg hat hgl
    rw [icC_succ] at hown
    have K : Kept (fun j => vw.ownBlock = some j) W W' := Kept.of_grown hg (fun _ e => e)
    have K2 : Kept (Mv A va vf vw) W W' := K.mono (fun j _ e => .inr (.inr (.inr e)))
    have E : ∀ j, j < W.heap.size → Mv A va vf (.slice (some ⟨g, 0, none⟩) (kw + 1) cap) j → Mv A va vf vw j := fun j hj e => by
      rcases e with e | e | e | e
      · exact .inl e
      · exact .inr (.inl e)
      · exact .inr (.inr (.inl e))
      · have e : g = j := by injection e
        subst e
        rcases hat with c | c
        · exact .inr (.inr (.inr c))
        · omega
    refine hc g cap W' ⟨h.bel.grown hg h.bel.size (fun q e => by have := (h.wid.lt q e).1; have := h.lA; omega), h.lA, ⟨ab, cb, k1.kept K (fun e => by have := (h.wid.lt A e).1; omega), k2.step K2 E⟩, ⟨Z, ownsRow_kept z1 K (fun j e1 e2 => own_apart z1 h.wid (by decide) j e1 e2), z2, z3, fun z hz => (z4 z hz).step K2 E⟩, ownsRow_kept h.frm K (fun j e1 e2 => h.ap j e1 e2), hown, fun j e1 e2 => ?_⟩
    have e2 : g = j := by injection e2
    subst e2
    rcases hat with c | c
    · exact h.ap g e1 c
    · have := (h.frm.lt g e1).2
      omega
/-- Fairs that are read. -/
def AlR (w : World) (a : Option Addr) (n : Nat) (f : Nat → Fa) : Prop := 0 < n → ∃ b off, a = some ⟨b, off, none⟩ ∧ b < w.heap.size ∧ ∀ k, k < n → ∃ a' c', (w.cell? ⟨b, off + k * 5, none⟩ = some (.int .u64 (f k).r) ∧ w.cell? ⟨b, off + k * 5 + 1, none⟩ = some (.int .i64 (f k).g) ∧ w.cell? ⟨b, off + k * 5 + 2, none⟩ = some (.int .i64 (f k).n) ∧ w.cell? ⟨b, off + k * 5 + 3, none⟩ = some (.int .i64 (f k).o) ∧ w.cell? ⟨b, off + k * 5 + 4, none⟩ = some (.slice a' (f k).F.length c')) ∧ LsR w a' c' (f k).F
theorem AlR.carry {w w' : World} {a : Option Addr} {n : Nat} {f : Nat → Fa} (h : AlR w a n f) (b : Below w.heap.size w w') : AlR w' a n f := fun hn => by
  obtain ⟨g, off, rfl, hg, hc⟩ := h hn
  refine ⟨g, off, rfl, Nat.lt_of_lt_of_le hg b.size, fun k hk => ?_⟩
  obtain ⟨a', c', ⟨x0, x1, x2, x3, x4⟩, l⟩ := hc k hk
  exact ⟨a', c', ⟨(b.cell (p := ⟨g, off + k * 5, none⟩) hg).trans x0, (b.cell (p := ⟨g, off + k * 5 + 1, none⟩) hg).trans x1, (b.cell (p := ⟨g, off + k * 5 + 2, none⟩) hg).trans x2, (b.cell (p := ⟨g, off + k * 5 + 3, none⟩) hg).trans x3, (b.cell (p := ⟨g, off + k * 5 + 4, none⟩) hg).trans x4⟩, l.carry b⟩
theorem hn_owned {w : World} {base : Nat} {v : Value} {n : Nat} {p : Nat → Int} (h : w.ownsRow base 3 1 v n (icC p n)) : ∃ a c, v = .slice a n c ∧ HnR w a n p := by
  rcases id h.2 with ⟨rfl, e⟩ | ⟨g, cap, cur, rfl, hb, hg, hc, r⟩
  · subst e
    exact ⟨none, 0, rfl, fun e => absurd e (Nat.lt_irrefl 0)⟩
  · refine ⟨some ⟨g, 0, none⟩, cap, rfl, fun _ => ⟨g, 0, rfl, (h.lt g rfl).2, fun k hk => ?_⟩⟩
    have := h.cells rfl k _ (icC_get p n k hk)
    rw [Go.WideShapes.add_plain] at this
    exact this
theorem RnI.out (h : RnI w W A x f p r ka kf kw va vf vw) : (∃ a c, va = .slice a ka c ∧ AlR W a ka f) ∧ (∃ a c, vf = .slice a kf c ∧ HnR W a kf p) ∧ (∃ a c, vw = .slice a kw c ∧ HnR W a kw r) := by
  refine ⟨?_, hn_owned h.frm, hn_owned h.wid⟩
  obtain ⟨Z, z1, z2, z3, z4⟩ := h.all
  rcases id z1.2 with ⟨rfl, e⟩ | ⟨g, cap, cur, rfl, hb, hg, hc, -⟩
  · subst e
    exact ⟨none, 0, rfl, fun e => absurd e (Nat.lt_irrefl 0)⟩
  · refine ⟨some ⟨g, 0, none⟩, cap, rfl, fun _ => ⟨g, 0, rfl, (z1.lt g rfl).2, fun k hk => ?_⟩⟩
    have hz : Z[k]? = some (Z[k]'(by omega)) := List.getElem?_eq_getElem (by omega)
    have hm := List.mem_of_getElem? hz
    have e := z3 k _ hz
    generalize Z[k]'(by omega) = z at *
    obtain ⟨y, a', c'⟩ := z
    simp only at e
    subst e
    have C := fun j hj => z1.cells rfl (k * 5 + j) _ (show (xCs Z)[k * 5 + j]? = some ((xC (f k, a', c'))[j]'hj) from by rw [xCs_at Z k _ hz j (by simpa [xC] using hj), List.getElem?_eq_getElem hj])
    simp only [Go.WideShapes.add_plain] at C
    exact ⟨a', c', ⟨by have := C 0 (by simp [xC]); exact this, by have := C 1 (by simp [xC]); exact this, by have := C 2 (by simp [xC]); exact this, by have := C 3 (by simp [xC]); exact this, by have := C 4 (by simp [xC]); exact this⟩, (z4 _ hm).read (Kept.refl _ _)⟩
end
end Go.Proofs.Ytemmkkcfjhmomaa
