/-
  The reference of layers 8 and 10 (RfR0). Conditions: what is read lies in memory.
  The reference of layers 8 and 10 (RfR). Conditions: what is read lies in memory.
-/
import Derived.Test.YtlkoaldekmdcoaaGreatDoorQL0
import Derived.Test.YtlkoaldekmdcoaaGreatDoorQRfL
import Derived.Test.YtlkoaldekmdcoaaGreatDoorQRbA
namespace Go.Proofs.YtlkoaldekmdcoaaGreatDoor
open Go.RowKit Go.Lib

theorem Lst.one {B : Nat} {w : World} {v : Value} {L : List ByteArray} (h : Lst B w v L) : v.oneCell' = true := by
  obtain ⟨a, c, rfl, _⟩ := h
  rfl

theorem rls_ones {B : Nat} {w : World} : ∀ (cs : List Value) (rs : List Rl), RlsV B w cs rs → ∀ u ∈ cs, u.oneCell' = true
  | _, [], h, u, hu => by cases h; cases hu
  | _, r :: rs, ⟨c, cs', e, hr, ht⟩, u, hu => by
    subst e
    rcases List.mem_append.1 hu with hu | hu
    · obtain ⟨v0, v1, v2, v3, v4, e, h0, h1, h2, h3, h4⟩ := hr
      subst e
      simp only [List.mem_cons, List.not_mem_nil, or_false] at hu
      rcases hu with rfl | rfl | rfl | rfl | rfl
      · exact h0.one
      · exact h1.one
      · exact h2.one
      · exact h3.one
      · exact h4.one
    · exact rls_ones cs' rs ht u hu

/-- One more rule, laid into the row of schemas. -/
theorem Bx.rule {B q cap sb m cS : Nat} {w w8 : World} {T P S M : Int} {lv : List Lv} {ini : List Sc} {s : Sc} {r : Rl} {vL vr : Value} {Vi cs5 cs : List Value}
    (h : Bx B w w8 ⟨T, P, S, M, lv, ini ++ [s]⟩ vL (.slice (some ⟨sb, 0, none⟩) (m + 1) cS) (Vi ++ [vr])) (hm : m = ini.length) (hV : Vi.length = ini.length) (hsw : w.heap.size ≤ sb)
    (hrv : RlsV B w8 cs s.rules) (h5 : RlV B w8 cs5 r) (hown : w8.ownsRow B 51 5 (.slice (some ⟨q, 0, none⟩) (s.rules.length + 1) cap) (s.rules.length + 1) (cs ++ cs5)) :
    Bx B w (w8.setCell ⟨sb, m * 5 + 4, none⟩ (.slice (some ⟨q, 0, none⟩) (s.rules.length + 1) cap)) ⟨T, P, S, M, lv, addRule r (ini ++ [s])⟩ vL (.slice (some ⟨sb, 0, none⟩) (m + 1) cS) (Vi ++ [.slice (some ⟨q, 0, none⟩) (s.rules.length + 1) cap]) := by
  have S8 : w8.ownsRow B 46 5 _ _ _ := h.s.own
  obtain ⟨cur, hsb⟩ := owns_type S8 (g := sb) rfl
  have k9 : Kept (fun k => k = sb) w8 (w8.setCell ⟨sb, m * 5 + 4, none⟩ (.slice (some ⟨q, 0, none⟩) (s.rules.length + 1) cap)) := (Kept.refl _ w8).setCell ⟨sb, m * 5 + 4, none⟩ _ (.inl rfl)
  have o : ∀ t, 46 ≠ t → OffR t (fun k => k = sb) w8 := fun t ht => off_blkR hsb ht
  have new : RlOwn B (w8.setCell ⟨sb, m * 5 + 4, none⟩ (.slice (some ⟨q, 0, none⟩) (s.rules.length + 1) cap)) (.slice (some ⟨q, 0, none⟩) (s.rules.length + 1) cap) (s.rules ++ [r]) :=
    ⟨cs ++ cs5, by rw [List.length_append]; exact owns_offR hown k9 (o 51 (by decide)), RlsV.kept k9 (o 9 (by decide)) _ _ (rls_append h5 cs s.rules hrv)⟩
  refine ⟨h.bel.trans (k9.below h.bel.size (fun j hj => by rw [hj]; exact hsw)), h.c.off k9 (o 25 (by decide)), h.r.off k9 (o 25 (by decide)), h.l.off k9 (o 40 (by decide)), ?_⟩
  dsimp only
  rw [addRule_last]
  refine ⟨by simp [hV], ?_, ?_⟩
  · rw [scCs_appendR _ _ _ _ hV]
    have S8' := S8
    dsimp only at S8'
    rw [scCs_appendR _ _ _ _ hV] at S8'
    obtain ⟨l1, l2⟩ := S8'
    rcases l2 with ⟨e, _⟩ | ⟨g', cap', cur', e, hB', hg', hc', hm', hs', ht'⟩
    · cases e
    · obtain ⟨rfl, rfl⟩ : sb = g' ∧ cS = cap' := by
        injection e with e1 _ e3
        injection e1 with e1
        injection e1 with e1 _
        exact ⟨e1, e3⟩
      refine ⟨by simpa [scC, withRule] using l1, .inr ⟨sb, cS, _, by simp [hm], hB', heap_setCell_same w8 sb (m * 5 + 4) cur' 46 _ hg', ?_, hm', by simpa using hs', ?_⟩⟩
      · simpa using hc'
      · have hl : (ini ++ [withRule r s]).length = (ini ++ [s]).length := by simp
        rw [Array.toList_setIfInBounds, hl, List.take_set, ht']
        rw [List.set_append_right _ _ (by rw [scCs_len _ _ hV, ← hm]; omega), scCs_len _ _ hV, ← hm, show m * 5 + 4 - m * 5 = 4 by omega]
        rfl
  · intro i hi hi'
    by_cases c : i < ini.length
    · have cV : i < Vi.length := by omega
      rw [List.getElem_append_left c, List.getElem_append_left cV]
      have h1 := h.s.rls i (by simp; omega) (by simp; omega)
      dsimp only at h1
      rw [List.getElem_append_left c, List.getElem_append_left cV] at h1
      exact h1.off k9 (o 9 (by decide)) (o 51 (by decide))
    · obtain rfl : i = ini.length := by simp at hi; omega
      have e1 : (ini ++ [withRule r s])[ini.length] = withRule r s := by simp
      have e2 : (Vi ++ [(.slice (some ⟨q, 0, none⟩) (s.rules.length + 1) cap : Value)])[ini.length]'hi' = .slice (some ⟨q, 0, none⟩) (s.rules.length + 1) cap := by
        rw [List.getElem_append_right (by omega)]
        simp [hV]
      rw [e1, e2]
      exact new

def arr5 (vs : List Value) : Array Value := (vs ++ List.replicate (5 - vs.length) (Value.slice none 0 0)).toArray

theorem arr5_set (vs : List Value) (v : Value) (h : vs.length < 5) : (arr5 vs).setIfInBounds vs.length v = arr5 (vs ++ [v]) := by
  match vs, h with
  | [], _ => rfl
  | [_], _ => rfl
  | [_, _], _ => rfl
  | [_, _, _], _ => rfl
  | [_, _, _, _], _ => rfl

theorem arr5_at (vs : List Value) (h : vs.length < 5) : (arr5 vs)[vs.length]? = some (.slice none 0 0) := by
  match vs, h with
  | [], _ => rfl
  | [_], _ => rfl
  | [_, _], _ => rfl
  | [_, _, _], _ => rfl
  | [_, _, _, _], _ => rfl

/-- The box, the answer, and the five lists behind them. -/
structure Rx (B : Nat) (w wr : World) (C : Cf) (vL vS : Value) (V : List Value) (ws : List ByteArray) (vs : List Value) : Prop where
  x : Bx B w wr C vL vS V
  q : Blk wr (w.heap.size + 1 + 1) 138 (arr5 vs)
  ls : ∀ j (h : j < vs.length), Lst B wr vs[j] (listOf (gt ws (j + 1)))
  ok : ∀ j, j < vs.length → listOk (gt ws (j + 1)) = true

theorem Rx.start {B : Nat} {w w2 : World} {C : Cf} {vL vS : Value} {V : List Value} (h : Bx B w w2 C vL vS V) (hs : w2.heap.size = w.heap.size + 1 + 1) (ws : List ByteArray) : Rx B w (w2.alloc (.cells #[.slice none 0 0, .slice none 0 0, .slice none 0 0, .slice none 0 0, .slice none 0 0] 138)) C vL vS V ws [] := by
  have n := Blk.new w2 138 #[.slice none 0 0, .slice none 0 0, .slice none 0 0, .slice none 0 0, .slice none 0 0]
  rw [hs] at n
  exact ⟨h.grown ((Below.refl _ _).alloc (Nat.le_refl _) _), n, fun j hj => absurd hj (Nat.not_lt_zero _), fun j hj => absurd hj (Nat.not_lt_zero _)⟩

theorem Rx.grown {B : Nat} {w wr w' : World} {C : Cf} {vL vS : Value} {V : List Value} {ws : List ByteArray} {vs : List Value} (h : Rx B w wr C vL vS V ws vs) (b : Below wr.heap.size wr w') : Rx B w w' C vL vS V ws vs :=
  ⟨h.x.grown b, h.q.kept (Kept.of_below b (fun _ => False)) id, fun j hj => (h.ls j hj).kept (Kept.of_below b (fun _ => False)) (fun _ _ _ _ => id), h.ok⟩

theorem Rx.next {B : Nat} {w wr : World} {C : Cf} {vL vS : Value} {V : List Value} {ws : List ByteArray} {vs : List Value} {v : Value} (h : Rx B w wr C vL vS V ws vs) (hk : vs.length < 5) (hv : Lst B wr v (listOf (gt ws (vs.length + 1)))) (ho : listOk (gt ws (vs.length + 1)) = true) :
    Rx B w (wr.setCell ⟨w.heap.size + 1 + 1, vs.length, none⟩ v) C vL vS V ws (vs ++ [v]) := by
  have k : Kept (fun k => k = w.heap.size + 1 + 1) wr (wr.setCell ⟨w.heap.size + 1 + 1, vs.length, none⟩ v) := (Kept.refl (fun k => k = w.heap.size + 1 + 1) wr).setCell ⟨w.heap.size + 1 + 1, vs.length, none⟩ v (.inl rfl)
  have o : ∀ t, 138 ≠ t → OffR t (fun k => k = w.heap.size + 1 + 1) wr := fun t ht => off_blkR h.q ht
  refine ⟨⟨h.x.bel.trans (k.below h.x.bel.size (fun j hj => by omega)), h.x.c.off k (o 25 (by decide)), h.x.r.off k (o 25 (by decide)), h.x.l.off k (o 40 (by decide)), h.x.s.off k (o 9 (by decide)) (o 46 (by decide)) (o 51 (by decide))⟩, ?_, fun j hj => ?_, fun j hj => ?_⟩
  · rw [← arr5_set vs v hk]
    exact h.q.set _ _
  · by_cases c : j < vs.length
    · rw [List.getElem_append_left c]
      exact (h.ls j c).kept k (o 9 (by decide))
    · obtain rfl : j = vs.length := by simp at hj; omega
      rw [List.getElem_append_right (Nat.le_refl _)]
      simp only [Nat.sub_self, List.getElem_cons_zero]
      exact hv.kept k (o 9 (by decide))
  · by_cases c : j < vs.length
    · exact h.ok j c
    · obtain rfl : j = vs.length := by simp at hj; omega
      exact ho

theorem Rx.five {B : Nat} {w wr : World} {C : Cf} {vL vS : Value} {V : List Value} {ws : List ByteArray} {vs : List Value} (h : Rx B w wr C vL vS V ws vs) (h5 : vs.length = 5) :
    ∃ a0 n0 c0 a1 n1 c1 a2 n2 c2 a3 n3 c3 a4 n4 c4, vs = [.slice a0 n0 c0, .slice a1 n1 c1, .slice a2 n2 c2, .slice a3 n3 c3, .slice a4 n4 c4] ∧ RlV B wr vs (ruleOf ws.tail) := by
  match vs, h5, h.ls with
  | [v0, v1, v2, v3, v4], _, ls =>
    have l0 := ls 0 (by simp)
    have l1 := ls 1 (by simp)
    have l2 := ls 2 (by simp)
    have l3 := ls 3 (by simp)
    have l4 := ls 4 (by simp)
    have R : RlV B wr [v0, v1, v2, v3, v4] (ruleOf ws.tail) := by
      unfold ruleOf
      simp only [gt_tail]
      exact ⟨v0, v1, v2, v3, v4, rfl, l0, l1, l2, l3, l4⟩
    obtain ⟨a0, c0, rfl, _⟩ := l0
    obtain ⟨a1, c1, rfl, _⟩ := l1
    obtain ⟨a2, c2, rfl, _⟩ := l2
    obtain ⟨a3, c3, rfl, _⟩ := l3
    obtain ⟨a4, c4, rfl, _⟩ := l4
    exact ⟨_, _, _, _, _, _, _, _, _, _, _, _, _, _, _, rfl, R⟩

theorem rule_bad {C : Cf} {ws : List ByteArray} {k : Nat} (hk : k < 5) (h : listOk (gt ws k) = false) : ruleE C ws = 2 := by
  have key : ∀ (e : Int) (b : Bool), (e = 0 ∨ e = 2) → (mu e (ifE b 2) = 0 ∨ mu e (ifE b 2) = 2) ∧ (e = 2 → mu e (ifE b 2) = 2) ∧ (b = false → mu e (ifE b 2) = 2) := by
    intro e b he
    rcases he with rfl | rfl <;> cases b <;> simp [mu, ifE]
  have k0 := key 0 (((ws.length : Int) == 5) && decide (0 < (C.schemas.length : Int))) (.inl rfl)
  rw [mu_zero] at k0
  have k1 := key _ (listOk (gt ws 0)) k0.1
  have k2 := key _ (listOk (gt ws 1)) k1.1
  have k3 := key _ (listOk (gt ws 2)) k2.1
  have k4 := key _ (listOk (gt ws 3)) k3.1
  have k5 := key _ (listOk (gt ws 4)) k4.1
  have e : ruleW C ws = 2 := by
    unfold ruleW
    match k, hk, h with
    | 0, _, h => exact k5.2.1 (k4.2.1 (k3.2.1 (k2.2.1 (k1.2.2 h))))
    | 1, _, h => exact k5.2.1 (k4.2.1 (k3.2.1 (k2.2.2 h)))
    | 2, _, h => exact k5.2.1 (k4.2.1 (k3.2.2 h))
    | 3, _, h => exact k5.2.1 (k4.2.2 h)
    | 4, _, h => exact k5.2.2 h
  unfold ruleE
  rw [e, mu_keep (e := 2) (by decide)]

theorem rule_fine {C : Cf} {ws : List ByteArray} (hl : ws.length = 5) (hp : 0 < C.schemas.length) (h : ∀ k, k < 5 → listOk (gt ws k) = true) : ruleE C ws = ifE (decide (((lastRules C).length : Int) < 8)) 3 := by
  have e : ruleW C ws = 0 := by
    unfold ruleW
    have e1 : (((ws.length : Int) == 5) && decide (0 < (C.schemas.length : Int))) = true := by rw [hl]; simp; omega
    rw [e1, h 0 (by decide), h 1 (by decide), h 2 (by decide), h 3 (by decide), h 4 (by decide)]
    rfl
  unfold ruleE
  rw [e, mu_zero]

theorem rule_none {C : Cf} {ws : List ByteArray} (h : ws.length ≠ 5 ∨ C.schemas.length = 0) : ruleE C ws = 2 := by
  have e1 : (((ws.length : Int) == 5) && decide (0 < (C.schemas.length : Int))) = false := by
    rcases h with h | h
    · have : ((ws.length : Int) == 5) = false := by simp; omega
      rw [this]; rfl
    · rw [h]; simp
  unfold ruleE ruleW
  rw [e1, ifE_no, mu_keep (e := 2) (by decide), mu_keep (e := 2) (by decide), mu_keep (e := 2) (by decide), mu_keep (e := 2) (by decide), mu_keep (e := 2) (by decide), mu_keep (e := 2) (by decide)]

theorem Rx.rlv {B : Nat} {w wr : World} {C : Cf} {vL vS : Value} {V : List Value} {ws : List ByteArray} {vs : List Value} (h : Rx B w wr C vL vS V ws vs) (h5 : vs.length = 5) : RlV B wr vs (ruleOf ws.tail) := by
  obtain ⟨_, _, _, _, _, _, _, _, _, _, _, _, _, _, _, _, r⟩ := h.five h5
  exact r

/-- The schemas in another row. -/
theorem Rx.swap {B : Nat} {w w8 : World} {C : Cf} {vL vS v' : Value} {V : List Value} {ws : List ByteArray} {vs : List Value} (h : Rx B w w8 C vL vS V ws vs) (hown : w8.ownsRow B 46 5 v' C.schemas.length (scCs C.schemas V)) :
    Rx B w (w8.setCell ⟨w.heap.size, 5, none⟩ v') C vL v' V ws vs := by
  have k : Kept (fun k => k = w.heap.size) w8 (w8.setCell ⟨w.heap.size, 5, none⟩ v') := (Kept.refl (fun k => k = w.heap.size) w8).setCell ⟨w.heap.size, 5, none⟩ v' (.inl rfl)
  exact ⟨h.x.swap hown, h.q.off k (off_blkR h.x.c (by decide)), fun j hj => (h.ls j hj).kept k (off_blkR h.x.c (by decide)), h.ok⟩

theorem wpList_wanted {P : Program} {w : World} {ops : Array Oper} {rest : List Oper} {o : Oper} {a : Act} {Q : Exit → Act → World → Prop} (hw : Region.wanted o (yielded ops a.tmps) = true) (h : ∀ K : Act → World → Prop, (∀ a w, wpList P ops Q rest a w → K a w) → o.wp P a w K Q) : wpList P ops Q (o :: rest) a w :=
  wpList_step fun K hK => by rw [if_pos hw]; exact h K hK

/-- .. in a region of one order. -/
theorem wpList_copy {P : Program} {ops : Array Oper} {rest : List Oper} {o : Oper} {a : Act} {w : World} {Q : Exit → Act → World → Prop} (hgd : o.guard = none) (s x : Operand) (t : TypeId)
    (ho : o.op = .call { callee := .builtin .append, args := #[s, x], argTypes := #[t, t] })
    (base : Nat) (e : TypeId) (i : TypeInfo) (z : Value) (size bytes : Nat) (ht : P.underlying t = some (.slice e)) (hi : P.info? e = some i) (hz : i.zero = some z)
    (hsize : i.size = size) (hby : i.bytes = bytes) (hzs : z.cells.size = size) (hsz : 0 < size)
    (q : Nat) (hs : a.eval s = .slice (some ⟨q, 0, none⟩) 0 0) (hq : Blk w q e #[]) (hbq : base ≤ q)
    (B' : Nat) (ax : Option Addr) (n c : Nat) (hx : a.eval x = .slice ax n c) (xs : List Value) (hown : w.ownsRow B' e size (.slice ax n c) n xs) (h1 : ∀ u ∈ xs, u.oneCell' = true)
    (h63 : n ≤ maxLen) (hbytes : n * bytes ≤ 140737488355328)
    (h : ∀ g cap w', w'.ownsRow base e size (.slice (some ⟨g, 0, none⟩) n cap) n xs → w.grownBy w' (some q) → g < w'.heap.size → wpList P ops Q rest (a.put o.dst (.slice (some ⟨g, 0, none⟩) n cap)) w') : wpList P ops Q (o :: rest) a w := by
  have hw : Region.wanted o (yielded ops a.tmps) = true := by simp [Region.wanted, hgd]
  refine wpList_wanted hw fun K hK => ?_
  have := step_copy (ops := ops) (E := True) (K := K) (Q := Q) hgd s x t ho base e i z size bytes ht hi hz hsize hby hzs hsz q hs hq hbq B' ax n c hx xs hown h1 h63 hbytes (fun g cap w' a b c => hK _ _ (h g cap w' a b c))
  rw [if_pos hw] at this
  exact this

end Go.Proofs.YtlkoaldekmdcoaaGreatDoor

namespace Go.Proofs.YtlkoaldekmdcoaaGreatDoor
open Go.RowKit Go.Lib

theorem info73b : (Tryz.prog.info? 51).map (fun i => (i.zero, i.size, i.bytes)) = some (some (.agg #[.slice none 0 0, .slice none 0 0, .slice none 0 0, .slice none 0 0, .slice none 0 0]), 5, 120) := by kernel_rfl

set_option maxRecDepth 20000 in
set_option maxHeartbeats 4000000 in
theorem rrule_go {B : Nat} (b off c : Nat) (ws : List ByteArray) (w : World) (T P S M : Int) (lv : List Lv) (ini : List Sc) (s : Sc) (vL vS : Value) (V : List Value) (hL : LvOwn B w vL lv) (hS : ScOwn B w vS (ini ++ [s]) V) (hb : b < w.heap.size)
    (hc : ∀ k, k < ws.length → w.cell? ⟨b, off + k, none⟩ = some (.string (gt ws k))) (h6 : ws.length = 6) (hsz : ∀ k, (gt ws k).size ≤ 65536) (hns : (ini ++ [s]).length ≤ 32) (hB : B ≤ w.heap.size) :
    Calls Tryz.prog 81 #[.agg #[.int .i64 T, .int .i64 P, .int .i64 S, .int .i64 M, vL, vS], .slice (some ⟨b, off, none⟩) 6 c] w fun e w' => ∃ v, e = .returned (.tuple #[v, .int .i64 (ruleE ⟨T, P, S, M, lv, ini ++ [s]⟩ ws.tail)]) ∧ Below w.heap.size w w' ∧ Six v
      ∧ (ruleE ⟨T, P, S, M, lv, ini ++ [s]⟩ ws.tail = 0 → CfV B w' v ⟨T, P, S, M, lv, addRule (ruleOf ws.tail) (ini ++ [s])⟩) := by
  have X0 : Hd (∀ vL vS, LvOwn B w vL lv → ScOwn B w vS (ini ++ [s]) V → Bx B w _ ⟨T, P, S, M, lv, ini ++ [s]⟩ vL vS V) := ⟨fun _ _ h1 h2 => Bx.start (C := ⟨T, P, S, M, lv, ini ++ [s]⟩) h1 h2⟩
  have hO : LvOwn B w vL lv ∧ ScOwn B w vS (ini ++ [s]) V := ⟨hL, hS⟩
  obtain ⟨aL, cL, rfl⟩ := own_form hL
  obtain ⟨aS, cS, rfl⟩ := own_form hS.own
  have HO : Hd _ := ⟨hO⟩
  clear hL hS hO
  generalize hE : ruleE ⟨T, P, S, M, lv, ini ++ [s]⟩ ws.tail = E
  have HE : Hd (ruleE ⟨T, P, S, M, lv, ini ++ [s]⟩ ws.tail = E) := ⟨hE⟩
  have HW : Hd ((∀ k, k < 6 → w.cell? ⟨b, off + k, none⟩ = some (.string (gt ws k))) ∧ ws.length = 6 ∧ ∀ k, (gt ws k).size ≤ 65536) := ⟨fun k hk => hc k (by omega), h6, hsz⟩
  clear hE hc h6 hsz
  obtain ⟨n, hn⟩ : ∃ n, n = lv.length := ⟨_, rfl⟩
  rw [← hn]
  rw [← hn] at HO
  have HN : Hd (n = lv.length) := ⟨hn⟩
  clear hn
  obtain ⟨m, hm⟩ : ∃ m, m = ini.length := ⟨_, rfl⟩
  have hm1 : (ini ++ [s]).length = m + 1 := by simp [hm]
  rw [hm1]
  rw [hm1] at HO hns
  have HM : Hd (m = ini.length) := ⟨hm⟩
  have m0 : (((m + 1 : Nat) : Int) == 0) = false := by simp; omega
  clear hm hm1
  go_enter Tryz.func81, Tryz.ntmps81
  go_upto_region 1 with fail
  generalize hw2 : World.alloc _ _ = w2
  have X2 : Hd (Bx B w w2 ⟨T, P, S, M, lv, ini ++ [s]⟩ (.slice aL n cL) (.slice aS (m + 1) cS) V ∧ w2.heap.size = w.heap.size + 1 + 1) := ⟨by rw [← hw2]; exact ⟨X0.out _ _ HO.out.1 HO.out.2, by simp⟩⟩
  clear hw2 X0 HO
  obtain ⟨y0, y1, y2, y3, y4, y5⟩ := X2.out.1.reads
  have hs2 := X2.out.2
  go_upto_region 4 with fail
  generalize hw3 : World.alloc _ _ = w3
  have X3 : Hd (Rx B w w3 ⟨T, P, S, M, lv, ini ++ [s]⟩ (.slice aL n cL) (.slice aS (m + 1) cS) V ws []) := ⟨by rw [← hw3]; exact Rx.start X2.out.1 X2.out.2 ws⟩
  clear hw3 X2 y0 y1 y2 y3 y4 y5 hs2 m0
  go_wp2_with fail
  go_loopw [7, 8, 9] (fun i k8 k9 wr => ∃ vs : List Value, vs.length ≤ 5 ∧ i = .int .i64 (vs.length : Nat) ∧ Hd (Rx B w wr ⟨T, P, S, M, lv, ini ++ [s]⟩ (.slice aL n cL) (.slice aS (m + 1) cS) V ws vs)) (fun i _ _ _ => 5 - (intOf i).toNat)
  case atStart => exact ⟨[], Nat.zero_le _, rfl, X3⟩
  case round =>
    obtain ⟨vs, hk, rfl, hR⟩ := hrel
    clear X3
    by_cases hlt : vs.length < 5
    · have hcell := (hR.out.x.bel.cell (p := ⟨b, off + (vs.length + 1), none⟩) hb).trans (HW.out.1 (vs.length + 1) (by omega))
      have hsz := HW.out.2.2 (vs.length + 1)
      have RL := fun W => rlist_y (gt ws (vs.length + 1)) W (by omega)
      have HL8 := list_len (gt ws (vs.length + 1))
      have HB2 : Hd (listOk (gt ws (vs.length + 1)) = false → E = 2) := ⟨fun h => by rw [← HE.out]; exact rule_bad hlt (by rw [gt_tail]; exact h)⟩
      have HNX : Hd (∀ W v, Rx B w W ⟨T, P, S, M, lv, ini ++ [s]⟩ (.slice aL n cL) (.slice aS (m + 1) cS) V ws vs → Lst B W v (listOf (gt ws (vs.length + 1))) → listOk (gt ws (vs.length + 1)) = true → Rx B w (W.setCell ⟨w.heap.size + 1 + 1, vs.length, none⟩ v) ⟨T, P, S, M, lv, ini ++ [s]⟩ (.slice aL n cL) (.slice aS (m + 1) cS) V ws (vs ++ [v])) := ⟨fun W v h1 h2 h3 => h1.next hlt h2 h3⟩
      have HCL : Hd (∀ W, Rx B w W ⟨T, P, S, M, lv, ini ++ [s]⟩ (.slice aL n cL) (.slice aS (m + 1) cS) V ws vs → W.cell? ⟨w.heap.size + 1 + 1, vs.length, none⟩ = some (.slice none 0 0) ∧ W.frozen? ⟨w.heap.size + 1 + 1, vs.length, none⟩ = false) := ⟨fun W h => ⟨h.q.cellv vs.length (arr5_at vs hlt), h.q.frozen _⟩⟩
      have HK : Hd (vs.length < 5) := ⟨hlt⟩
      have HBW : Hd (B ≤ wr.heap.size) := ⟨Nat.le_trans hB (Nat.le_of_lt hR.out.x.c.lt)⟩
      generalize gt ws (vs.length + 1) = x at *
      generalize hLx : listOf x = L at *
      generalize hob : listOk x = ob at *
      obtain ⟨q, hq⟩ : ∃ q, q = L.length := ⟨_, rfl⟩
      have HQ : Hd (q = L.length ∧ q ≤ 8) := ⟨hq, by omega⟩
      rw [← hq] at RL
      obtain ⟨k, hkk⟩ : ∃ k, k = vs.length := ⟨_, rfl⟩
      rw [← hkk] at hcell HCL HNX
      rw [← hkk]
      have HKK : Hd (k = vs.length) := ⟨hkk⟩
      have i1 : (k : Int) + 1 < 6 := by omega
      have i2 : (k : Int) < 5 := by omega
      have i3 : IntKind.i64.wrap ((k : Int) + 1) = (k : Int) + 1 := by rw [IntKind.wrap_i64]; omega
      clear hkk hq HL8 hlt hk
      go_wp2_with fail
      go_at_call 100
      refine (RL _).mono ?_
      rintro e w4 ⟨a4, c4, rfl, r4, k4, b4⟩
      have X4 : Hd (Rx B w w4 ⟨T, P, S, M, lv, ini ++ [s]⟩ (.slice aL n cL) (.slice aS (m + 1) cS) V ws vs) := ⟨hR.out.grown b4⟩
      have L4 : Hd (Lst B w4 (.slice a4 q c4) L) := ⟨a4, c4, by rw [HQ.out.1], r4.mono HBW.out, by rw [← HQ.out.1]; exact k4, by have := HQ.out; omega⟩
      clear b4 r4 k4 hR hcell RL
      cases ob with
      | false =>
        obtain ⟨y0, y1, y2, y3, y4, y5⟩ := X4.out.x.reads
        obtain ⟨r0, r1, r2, r3, r4, r5, f0, f1, f2, f3, f4, f5⟩ := X4.out.x.room
        go_wp2_with fail
        have EE : E = 2 := HB2.out (by first | exact rfl | trivial)
        subst EE
        obtain ⟨q1, q2, q3⟩ := X4.out.x.sets (.int .i64 T) (.int .i64 P) (.int .i64 S) (.int .i64 M) (.slice aL n cL) (.slice aS (m + 1) cS)
        refine bodyPost_ret (resC38 _ _ _ _ _ _ _ _ _ _ rfl rfl q1) rfl ?_
        exact ⟨_, rfl, q2, ⟨_, _, _, _, _, _, _, _, _, _, rfl⟩, fun h => absurd h (by decide)⟩
      | true =>
        obtain ⟨p1, p2⟩ := HCL.out w4 X4.out
        go_wp2_with fail
        have F4 : Hd _ := ⟨HNX.out w4 _ X4.out L4.out (by first | exact rfl | trivial)⟩
        go_roundw
        case rel =>
          have hlen : (vs ++ [Value.slice a4 q c4]).length = k + 1 := by rw [List.length_append, ← HKK.out]; rfl
          repeat apply Exists.intro
          exact ⟨⟨vs ++ [Value.slice a4 q c4], by rw [hlen]; have := HK.out; have := HKK.out; omega, by rw [hlen]; go_num, F4⟩, rfl⟩
        case measure => have := HK.out; have := HKK.out; simp [intOf]; omega
    · have h5 : vs.length = 5 := by omega
      obtain ⟨a0, n0, c0, a1, n1, c1, a2, n2, c2, a3, n3, c3, a4, n4, c4, rfl, RV⟩ := hR.out.five h5
      have HF : Hd (E = ifE (decide ((s.rules.length : Int) < 8)) 3) := ⟨by
        rw [← HE.out, rule_fine (by rw [List.length_tail, HW.out.2.1]) (by simp) (fun k hk => by rw [gt_tail]; exact hR.out.ok k hk)]
        unfold lastRules
        rw [List.getLast?_concat]⟩
      have hs := hR.out.x.s
      dsimp only at hs
      obtain ⟨Vi, vr, rfl⟩ : ∃ Vi vr, V = Vi ++ [vr] := by
        have h0 : V ≠ [] := fun e => by have := hs.len; rw [e] at this; simp at this
        exact ⟨V.dropLast, V.getLast h0, (List.dropLast_concat_getLast h0).symm⟩
      have hV : Vi.length = ini.length := by have := hs.len; simp at this; exact this
      have hm1 : m + 1 = (ini ++ [s]).length := by rw [HM.out]; simp
      have hs' := hs
      rw [hm1] at hs'
      obtain ⟨g1, rfl, hg1, C1⟩ := sc_rd hs' (by simp)
      have HVM : Hd (Vi.length = m) := ⟨by rw [hV, HM.out]⟩
      have cr : wr.cell? ⟨g1, m * 5 + 4, none⟩ = some vr := by
        have h1 := C1 m (by rw [← hm1]; omega) (by simp; have := HVM.out; omega) 4 (by decide)
        rw [h1]
        have e2 : (Vi ++ [vr])[m]'(by simp; have := HVM.out; omega) = vr := by
          rw [List.getElem_append_right (by have := HVM.out; omega)]
          simp
        simp [scC, e2]
      have hro := hs.rls m (by rw [← hm1]; omega) (by simp; have := HVM.out; omega)
      have e3 : (Vi ++ [vr])[m]'(by simp; have := HVM.out; omega) = vr := by
        rw [List.getElem_append_right (by have := HVM.out; omega)]
        simp
      have e4 : (ini ++ [s])[m]'(by rw [← hm1]; omega) = s := by
        rw [List.getElem_append_right (by rw [HM.out]; exact Nat.le_refl _)]
        simp
      rw [e3, e4] at hro
      obtain ⟨rcs, hown, hrv⟩ := hro
      obtain ⟨ar, cr', rfl⟩ := own_form hown
      have HRV : Hd _ := ⟨And.intro hown hrv⟩
      have HX : Hd _ := ⟨And.intro hR.out RV⟩
      have HVi : Hd (Vi.length = ini.length) := ⟨hV⟩
      obtain ⟨nr, hnr⟩ : ∃ nr, nr = s.rules.length := ⟨_, rfl⟩
      rw [← hnr] at cr HRV HX
      have HNR : Hd (nr = s.rules.length) := ⟨hnr⟩
      have nr2 : Hd (nr ≤ 9223372036854775807) := ⟨own_len HRV.out.1⟩
      obtain ⟨y0, y1, y2, y3, y4, y5⟩ := hR.out.x.reads
      clear hs hs' hV hm1 C1 e3 e4 hown hrv hR RV h5 hnr hlt hk
      have j1 : (m : Int) < (m : Int) + 1 := by omega
      by_cases h8 : nr < 8
      · have gg : decide ((nr : Int) ≥ 8) = false := by simp; omega
        go_upto_region 14 with fail
        clear gg
        have HR8 : Hd (nr < 8) := ⟨h8⟩
        have aW : w.heap.size < wr.heap.size := HX.out.1.x.c.lt
        obtain ⟨i0, hi, hz0, hz1, hz2⟩ := info_parts info42
        have OWN : (wr.alloc (.cells #[] 46)).ownsRow B 46 5 (.slice (some ⟨g1, 0, none⟩) (m + 1) cS) (m + 1) (scCs (ini ++ [s]) (Vi ++ [.slice ar nr cr'])) := by
          have h1 : wr.ownsRow B 46 5 _ _ _ := HX.out.1.x.s.own
          have e1 : (ini ++ [s]).length = m + 1 := by rw [HM.out]; simp
          dsimp only at h1
          rw [e1] at h1
          exact World.ownsRow.alloc h1 _
        have ONES := HX.out.1.x.s.ones
        have ROOM : Hd (∀ W, Below wr.heap.size wr W → W.cell? ⟨w.heap.size, 5, none⟩ = some (.slice (some ⟨g1, 0, none⟩) (m + 1) cS) ∧ W.frozen? ⟨w.heap.size, 5, none⟩ = false) := ⟨fun W hW => ⟨(hW.cell (p := ⟨w.heap.size, 5, none⟩) aW).trans y5, (HX.out.1.x.grown hW).c.frozen 5⟩⟩
        have AL : Below wr.heap.size wr (wr.alloc (.cells #[] 46)) := (Below.refl _ _).alloc (Nat.le_refl _) _
        have NW : Blk (wr.alloc (.cells #[] 46)) wr.heap.size 46 #[] := Blk.new wr 46 #[]
        have m32 : m + 1 ≤ 32 := hns
        go_wp2_with (at_builtin; refine wpList_copy rfl (.tmp 53) (.tmp 55) 23 rfl wr.heap.size 46 i0 (.agg #[.string ⟨#[]⟩, .string ⟨#[]⟩, .int .i64 0, .int .i64 0, .slice none 0 0]) 5 72 Tryz.underlying23 hi hz0 hz1 hz2 rfl (by decide) wr.heap.size rfl NW (Nat.le_refl _) B (some ⟨g1, 0, none⟩) (m + 1) cS rfl _ OWN ONES (by unfold maxLen; omega) (by omega) ?_; intro g5 cap5 w5 own5 gr5 lt5; have bc5 : Below wr.heap.size wr w5 := AL.grown gr5 AL.size (fun k hk => by injection hk with hk; omega); obtain ⟨e5, f5⟩ := ROOM.out w5 bc5)
        have X5 : Hd (Rx B w w5 ⟨T, P, S, M, lv, ini ++ [s]⟩ (.slice aL n cL) (.slice (some ⟨g1, 0, none⟩) (m + 1) cS) (Vi ++ [.slice ar nr cr']) ws [.slice a0 n0 c0, .slice a1 n1 c1, .slice a2 n2 c2, .slice a3 n3 c3, .slice a4 n4 c4]) := ⟨HX.out.1.grown bc5⟩
        have G5 : Hd (w.heap.size ≤ g5) := ⟨by have := (own5.lt g5 rfl).1; omega⟩
        generalize hw6 : w5.setCell _ _ = w6
        have X6 : Hd (Rx B w w6 ⟨T, P, S, M, lv, ini ++ [s]⟩ (.slice aL n cL) (.slice (some ⟨g5, 0, none⟩) (m + 1) cap5) (Vi ++ [.slice ar nr cr']) ws [.slice a0 n0 c0, .slice a1 n1 c1, .slice a2 n2 c2, .slice a3 n3 c3, .slice a4 n4 c4]) := ⟨by
          rw [← hw6]
          have e1 : (ini ++ [s]).length = m + 1 := by rw [HM.out]; simp
          exact X5.out.swap (by dsimp only; rw [e1]; exact owns_mono own5 (Nat.le_trans hB (Nat.le_of_lt aW)))⟩
        clear hw6 X5 own5 gr5 lt5 bc5 e5 f5 OWN ONES ROOM AL NW i0 hi hz0 hz1 hz2 HX HRV cr y0 y1 y2 y3 y4 y5 hg1 aW
        obtain ⟨y0, y1, y2, y3, y4, y5⟩ := X6.out.x.reads
        have hs := X6.out.x.s
        dsimp only at hs
        have hm1 : m + 1 = (ini ++ [s]).length := by rw [HM.out]; simp
        have hs' := hs
        rw [hm1] at hs'
        obtain ⟨g6, e6, hg6, C1⟩ := sc_rd hs' (by simp)
        obtain rfl : g5 = g6 := by injection e6 with e6; injection e6
        have cr : w6.cell? ⟨g5, m * 5 + 4, none⟩ = some (.slice ar nr cr') := by
          have h1 := C1 m (by rw [← hm1]; omega) (by simp; have := HVM.out; omega) 4 (by decide)
          rw [h1]
          have e2 : (Vi ++ [Value.slice ar nr cr'])[m]'(by simp; have := HVM.out; omega) = .slice ar nr cr' := by
            rw [List.getElem_append_right (by have := HVM.out; omega)]
            simp
          simp [scC, e2]
        have hro := hs.rls m (by rw [← hm1]; omega) (by simp; have := HVM.out; omega)
        have e3 : (Vi ++ [Value.slice ar nr cr'])[m]'(by simp; have := HVM.out; omega) = .slice ar nr cr' := by
          rw [List.getElem_append_right (by have := HVM.out; omega)]
          simp
        have e4 : (ini ++ [s])[m]'(by rw [← hm1]; omega) = s := by
          rw [List.getElem_append_right (by rw [HM.out]; exact Nat.le_refl _)]
          simp
        rw [e3, e4] at hro
        obtain ⟨rcs, hown, hrv⟩ := hro
        rw [← HNR.out] at hown
        have ONES := rls_ones rcs _ hrv
        have RV6 := X6.out.rlv rfl
        have SZ6 : w.heap.size < w6.heap.size := X6.out.x.c.lt
        have BW : B ≤ w6.heap.size := Nat.le_trans hB (Nat.le_of_lt SZ6)
        have TT : ∀ W, Below w6.heap.size w6 W → W.cell? ⟨w.heap.size, 5, none⟩ = some (.slice (some ⟨g5, 0, none⟩) (m + 1) cap5) ∧ W.cell? ⟨g5, m * 5 + 4, none⟩ = some (.slice ar nr cr') ∧ Blk W (w.heap.size + 1 + 1) 138 #[.slice a0 n0 c0, .slice a1 n1 c1, .slice a2 n2 c2, .slice a3 n3 c3, .slice a4 n4 c4] := fun W hW =>
          ⟨(hW.cell (p := ⟨w.heap.size, 5, none⟩) SZ6).trans y5, (hW.cell (p := ⟨g5, m * 5 + 4, none⟩) hg6).trans cr, X6.out.q.kept (Kept.of_below hW (fun _ => False)) id⟩
        have OWN : ∀ W, Below w6.heap.size w6 W → W.ownsRow B 51 5 (.slice ar nr cr') nr rcs := fun W hW => owns_kept hown (Kept.of_below hW (fun _ => False)) (fun _ _ => id)
        obtain ⟨i0, hi, hz0, hz1, hz2⟩ := info_parts info73b
        have ONE : ∀ u ∈ ([.slice a0 n0 c0, .slice a1 n1 c1, .slice a2 n2 c2, .slice a3 n3 c3, .slice a4 n4 c4] : List Value), u.oneCell' = true := by
          intro u hu
          simp only [List.mem_cons, List.not_mem_nil, or_false] at hu
          rcases hu with rfl | rfl | rfl | rfl | rfl <;> rfl
        have FIN : Hd (∀ q cap W, W.ownsRow B 51 5 (.slice (some ⟨q, 0, none⟩) (nr + 1) cap) (nr + 1) (rcs ++ [.slice a0 n0 c0, .slice a1 n1 c1, .slice a2 n2 c2, .slice a3 n3 c3, .slice a4 n4 c4]) → Below w6.heap.size w6 W → Bx B w (W.setCell ⟨g5, m * 5 + 4, none⟩ (.slice (some ⟨q, 0, none⟩) (nr + 1) cap)) ⟨T, P, S, M, lv, addRule (ruleOf ws.tail) (ini ++ [s])⟩ (.slice aL n cL) (.slice (some ⟨g5, 0, none⟩) (m + 1) cap5) (Vi ++ [.slice (some ⟨q, 0, none⟩) (nr + 1) cap])) := ⟨fun q cap W hO hW => by
          rw [HNR.out] at hO ⊢
          exact Bx.rule (X6.out.x.grown hW) HM.out HVi.out G5.out (RlsV.kept (Kept.of_below hW (fun _ => False)) (fun _ _ _ _ => id) _ _ hrv) (RV6.kept (Kept.of_below hW (fun _ => False)) (fun _ _ _ _ => id)) hO⟩
        have ROOM : Hd (∀ W, Below w6.heap.size w6 W → W.cell? ⟨g5, m * 5 + 4, none⟩ = some (.slice ar nr cr') ∧ W.frozen? ⟨g5, m * 5 + 4, none⟩ = false) := ⟨fun W hW => ⟨(TT W hW).2.1, by
          obtain ⟨cur, hb⟩ := owns_type (X6.out.x.grown hW).s.own (g := g5) rfl
          exact hb.frozen _⟩⟩
        have HEND : Hd (∀ (W W' : World) (V' : List Value), Blk W' (w.heap.size + 1) 25 #[.int .i64 T, .int .i64 P, .int .i64 S, .int .i64 M, .slice aL n cL, .slice (some ⟨g5, 0, none⟩) (m + 1) cap5] → Below w.heap.size w W' → Kept (fun k => k = w.heap.size + 1) W W' → Bx B w W ⟨T, P, S, M, lv, addRule (ruleOf ws.tail) (ini ++ [s])⟩ (.slice aL n cL) (.slice (some ⟨g5, 0, none⟩) (m + 1) cap5) V' →
            ∃ v', Ending.returned (.tuple #[.agg #[.int .i64 T, .int .i64 P, .int .i64 S, .int .i64 M, .slice aL n cL, .slice (some ⟨g5, 0, none⟩) (m + 1) cap5], .int .i64 0]) = Ending.returned (.tuple #[v', .int .i64 E]) ∧ Below w.heap.size w W' ∧ Six v' ∧ (E = 0 → CfV B W' v' ⟨T, P, S, M, lv, addRule (ruleOf ws.tail) (ini ++ [s])⟩)) := ⟨fun W W' V' _ q2 q3 X9 => by
          have E0 : E = 0 := by rw [HF.out, ← HNR.out]; have := HR8.out; simp [ifE]; omega
          subst E0
          have cf : CfV B W' (.agg #[.int .i64 T, .int .i64 P, .int .i64 S, .int .i64 M, .slice aL n cL, .slice (some ⟨g5, 0, none⟩) (m + 1) cap5]) ⟨T, P, S, M, lv, addRule (ruleOf ws.tail) (ini ++ [s])⟩ := ⟨_, _, V', rfl, X9.l.off q3 (off_blkR X9.r (by decide)), X9.s.off q3 (off_blkR X9.r (by decide)) (off_blkR X9.r (by decide)) (off_blkR X9.r (by decide))⟩
          exact ⟨_, rfl, q2, cf.six, fun _ => cf⟩⟩
        have r8 := HR8.out
        clear hs hs' C1 e3 e4 hown hrv RV6 X6 cr y0 y1 y2 y3 y4 y5 h8 e6 hm1
        refine AnyG.start (T := fun _ => True) (U := fun w' => w'.cell? ⟨w.heap.size, 5, none⟩ = some (.slice (some ⟨g5, 0, none⟩) (m + 1) cap5) ∧ w'.cell? ⟨g5, m * 5 + 4, none⟩ = some (.slice ar nr cr') ∧ Blk w' (w.heap.size + 1 + 1) 138 #[.slice a0 n0 c0, .slice a1 n1 c1, .slice a2 n2 c2, .slice a3 n3 c3, .slice a4 n4 c4]) (j0 := 26) (by kernel_rfl) ?_
        have bel0 : Below w6.heap.size w6 w6.drew := ⟨rfl, rfl, rfl, Nat.le_refl _, fun _ _ => rfl⟩
        generalize w6.drew = w0 at *
        have h0 := TT w0 bel0
        refine .tk 0 58 rfl rfl (by kernel_rfl) (fun _ _ _ h => h) ⟨trivial, fun _ => h0⟩ (by rfl) (fun w hSw => by go_simp; rfl) ?_; simp only [tkA, tkB, tkC]
        refine .ek 1 59 rfl rfl (by kernel_rfl) (fun _ _ _ h => h) ⟨trivial, fun _ => h0⟩ (by rfl) (fun w hSw => by obtain ⟨-, s1, s2, s3⟩ := hSw; go_simp; rfl) ?_; simp only [tkA, tkB, tkC]
        refine .tk 2 60 rfl rfl (by kernel_rfl) (fun _ _ _ h => h) ⟨trivial, fun _ => h0⟩ (by rfl) (fun w hSw => by go_simp; rfl) ?_; simp only [tkA, tkB, tkC]
        refine .tk 4 62 rfl rfl (by kernel_rfl) (fun _ _ _ h => h) ⟨trivial, fun _ => h0⟩ (by rfl) (fun w hSw => by go_simp; rfl) ?_; simp only [tkA, tkB, tkC]
        refine .ek 5 63 rfl rfl (by kernel_rfl) (fun _ _ _ h => h) ⟨trivial, fun _ => h0⟩ (by rfl) (fun w hSw => by obtain ⟨-, s1, s2, s3⟩ := hSw; go_simp; rfl) ?_; simp only [tkA, tkB, tkC]
        refine .tk 6 64 rfl rfl (by kernel_rfl) (fun _ _ _ h => h) ⟨trivial, fun _ => h0⟩ (by rfl) (fun w hSw => by go_simp; rfl) ?_; simp only [tkA, tkB, tkC]
        refine .tk 7 65 rfl rfl (by kernel_rfl) (fun _ _ _ h => h) ⟨trivial, fun _ => h0⟩ (by rfl) (fun w hSw => by go_simp; rfl) ?_; simp only [tkA, tkB, tkC]
        refine .tk 8 66 rfl rfl (by kernel_rfl) (fun _ _ _ h => h) ⟨trivial, fun _ => h0⟩ (by rfl) (fun w hSw => by go_simp; rfl) ?_; simp only [tkA, tkB, tkC]
        refine .ek 9 67 rfl rfl (by kernel_rfl) (fun _ _ _ h => h) ⟨trivial, fun _ => h0⟩ (by rfl) (fun w hSw => by obtain ⟨-, s1, s2, s3⟩ := hSw; go_simp; rfl) ?_; simp only [tkA, tkB, tkC]
        refine .tk 11 69 rfl rfl (by kernel_rfl) (fun _ _ _ h => h) ⟨trivial, fun _ => h0⟩ (by rfl) (fun w hSw => by go_simp; rfl) ?_; simp only [tkA, tkB, tkC]
        refine .ek 12 70 rfl rfl (by kernel_rfl) (fun _ _ _ h => h) ⟨trivial, fun _ => h0⟩ (by rfl) (fun w hSw => by obtain ⟨-, s1, s2, s3⟩ := hSw; have s4 := s3.cellv (v := .slice a0 n0 c0) 0 rfl; go_simp; rfl) ?_; simp only [tkA, tkB, tkC]
        refine .tk 13 71 rfl rfl (by kernel_rfl) (fun _ _ _ h => h) ⟨trivial, fun _ => h0⟩ (by rfl) (fun w hSw => by go_simp; rfl) ?_; simp only [tkA, tkB, tkC]
        refine .ek 14 72 rfl rfl (by kernel_rfl) (fun _ _ _ h => h) ⟨trivial, fun _ => h0⟩ (by rfl) (fun w hSw => by obtain ⟨-, s1, s2, s3⟩ := hSw; have s4 := s3.cellv (v := .slice a1 n1 c1) 1 rfl; go_simp; rfl) ?_; simp only [tkA, tkB, tkC]
        refine .tk 15 73 rfl rfl (by kernel_rfl) (fun _ _ _ h => h) ⟨trivial, fun _ => h0⟩ (by rfl) (fun w hSw => by go_simp; rfl) ?_; simp only [tkA, tkB, tkC]
        refine .ek 16 74 rfl rfl (by kernel_rfl) (fun _ _ _ h => h) ⟨trivial, fun _ => h0⟩ (by rfl) (fun w hSw => by obtain ⟨-, s1, s2, s3⟩ := hSw; have s4 := s3.cellv (v := .slice a2 n2 c2) 2 rfl; go_simp; rfl) ?_; simp only [tkA, tkB, tkC]
        refine .tk 17 75 rfl rfl (by kernel_rfl) (fun _ _ _ h => h) ⟨trivial, fun _ => h0⟩ (by rfl) (fun w hSw => by go_simp; rfl) ?_; simp only [tkA, tkB, tkC]
        refine .ek 18 76 rfl rfl (by kernel_rfl) (fun _ _ _ h => h) ⟨trivial, fun _ => h0⟩ (by rfl) (fun w hSw => by obtain ⟨-, s1, s2, s3⟩ := hSw; have s4 := s3.cellv (v := .slice a3 n3 c3) 3 rfl; go_simp; rfl) ?_; simp only [tkA, tkB, tkC]
        refine .tk 19 77 rfl rfl (by kernel_rfl) (fun _ _ _ h => h) ⟨trivial, fun _ => h0⟩ (by rfl) (fun w hSw => by go_simp; rfl) ?_; simp only [tkA, tkB, tkC]
        refine .ek 20 78 rfl rfl (by kernel_rfl) (fun _ _ _ h => h) ⟨trivial, fun _ => h0⟩ (by rfl) (fun w hSw => by obtain ⟨-, s1, s2, s3⟩ := hSw; have s4 := s3.cellv (v := .slice a4 n4 c4) 4 rfl; go_simp; rfl) ?_; simp only [tkA, tkB, tkC]
        refine .tk 21 79 rfl rfl (by kernel_rfl) (fun _ _ _ h => h) ⟨trivial, fun _ => h0⟩ (by rfl) (fun w hSw => by go_simp; rfl) ?_; simp only [tkA, tkB, tkC]
        refine AnyG.ready (rs := [3, 22]) (by kernel_rfl) (by simp) ?_
        refine AllG.cons rfl (fun K hK => ?_) (AllG.cons rfl (fun K hK => ?_) AllG.nil)
        · skip
          go_simp
          have bn1 : Below w6.heap.size w6 (w0.alloc (.cells #[] 51)) := bel0.alloc bel0.size _
          refine hK.out _ _ ⟨trivial, fun _ => TT _ bn1⟩ ?_
          clear hK K
          have hn1 : Blk (w0.alloc (.cells #[] 51)) w0.heap.size 51 #[] := Blk.new w0 51 _
          have hb1 : w6.heap.size ≤ w0.heap.size := bel0.size
          generalize w0.alloc (.cells #[] 51) = wa1 at *
          generalize w0.heap.size = qa1 at *
          refine AnyG.ready (rs := [10, 22]) (by kernel_rfl) (by simp) ?_
          refine AllG.cons rfl (fun K hK => ?_) (AllG.cons rfl (fun K hK => ?_) AllG.nil)
          · skip
            refine step_copy rfl (.tmp 61) (.tmp 67) 44 rfl w6.heap.size 51 i0 (.agg #[.slice none 0 0, .slice none 0 0, .slice none 0 0, .slice none 0 0, .slice none 0 0]) 5 120 Tryz.underlying44 hi hz0 hz1 hz2 rfl (by decide) qa1 (by simp [Act.eval]) hn1 hb1 B ar nr cr' (by simp [Act.eval]) rcs (OWN _ bn1) ONES (by unfold maxLen; omega) (by omega) ?_
            intro g12 cap12 wc2 own2 gr2 lt2
            have bc2 : Below w6.heap.size w6 wc2 := bn1.grown gr2 bn1.size (fun k hk => by injection hk with hk; have := hb1; omega)
            refine hK.out _ _ ⟨trivial, fun _ => TT _ bc2⟩ ?_
            clear hK K
            refine AnyG.putAt 68 rfl ?_
            simp only [List.setIfInBounds_toArray, List.set_cons_zero, List.set_cons_succ]
            refine AnyG.ready (rs := [22]) (by kernel_rfl) (by simp) ?_
            refine AllG.cons rfl (fun K hK => ?_) AllG.nil
            go_simp
            have bn3 : Below w6.heap.size w6 (wc2.alloc (.cells #[.slice a0 n0 c0, .slice a1 n1 c1, .slice a2 n2 c2, .slice a3 n3 c3, .slice a4 n4 c4] 51)) := bc2.alloc bc2.size _
            refine hK.out _ _ ⟨trivial, fun _ => TT _ bn3⟩ ?_
            clear hK K
            have hn3 : Blk (wc2.alloc (.cells #[.slice a0 n0 c0, .slice a1 n1 c1, .slice a2 n2 c2, .slice a3 n3 c3, .slice a4 n4 c4] 51)) wc2.heap.size 51 #[.slice a0 n0 c0, .slice a1 n1 c1, .slice a2 n2 c2, .slice a3 n3 c3, .slice a4 n4 c4] := Blk.new wc2 51 _
            have hb3 : w6.heap.size ≤ wc2.heap.size := bc2.size
            have ho3 := World.ownsRow.alloc own2 (.cells #[.slice a0 n0 c0, .slice a1 n1 c1, .slice a2 n2 c2, .slice a3 n3 c3, .slice a4 n4 c4] 51)
            generalize wc2.alloc (.cells #[.slice a0 n0 c0, .slice a1 n1 c1, .slice a2 n2 c2, .slice a3 n3 c3, .slice a4 n4 c4] 51) = wa3 at *
            generalize wc2.heap.size = pa3 at *
            refine AnyG.ready (rs := [23]) (by kernel_rfl) (by simp) ?_
            refine AllG.cons rfl (fun K hK => ?_) AllG.nil
            refine step_append_lies wa3 rfl (.tmp 68) (.tmp 80) 44 rfl w6.heap.size 51 i0 (.agg #[.slice none 0 0, .slice none 0 0, .slice none 0 0, .slice none 0 0, .slice none 0 0]) 5 120 Tryz.underlying44 hi hz0 hz1 hz2 rfl (by decide) _ nr rcs (by simp [Act.eval]) ho3 ⟨pa3, 0, none⟩ 1 1 [.slice a0 n0 c0, .slice a1 n1 c1, .slice a2 n2 c2, .slice a3 n3 c3, .slice a4 n4 c4] (by simp [Act.eval]) rfl (World.news_of_block hn3) ONE (by decide) (by unfold maxLen; omega) (by omega) bn3.size _ rfl ?_
            intro q8 cap8 w8 hown hgrow hat hlt
            have b8 : Below w6.heap.size w6 w8 := bn3.grown hgrow bn3.size (fun k hk => (ho3.lt k hk).1)
            refine hK.out _ _ ⟨trivial, fun _ => TT _ b8⟩ ?_
            clear hK K
            refine AnyG.putAt 81 rfl ?_
            simp only [List.setIfInBounds_toArray, List.set_cons_zero, List.set_cons_succ]
            have h8 := TT w8 b8
            refine .tk 24 82 rfl rfl (by kernel_rfl) (fun _ _ _ h => h) ⟨trivial, fun _ => h8⟩ (by rfl) (fun w hSw => by go_simp; rfl) ?_; simp only [tkA, tkB, tkC]
            refine .tk 25 83 rfl rfl (by kernel_rfl) (fun _ _ _ h => h) ⟨trivial, fun _ => h8⟩ (by rfl) (fun w hSw => by go_simp; rfl) ?_; simp only [tkA, tkB, tkC]
            refine AnyG.ready (rs := [26]) (by kernel_rfl) (by simp) ?_
            refine AllG.cons rfl (fun K hK => ?_) AllG.nil
            obtain ⟨e8, f8⟩ := ROOM.out w8 b8
            have X9 := FIN.out q8 cap8 w8 (owns_mono hown BW) b8
            go_simp
            refine hK.out _ _ ⟨trivial, fun h => by cases h⟩ ?_
            clear hK K
            refine AnyG.done (by kernel_rfl) ?_ _
            generalize w8.setCell _ _ = w9 at *
            obtain ⟨y0, y1, y2, y3, y4, y5⟩ := X9.reads
            obtain ⟨r0, r1, r2, r3, r4, r5, f0, f1, f2, f3, f4, f5⟩ := X9.room
            clear TT OWN ONES ROOM FIN h8 e8 f8 hown hgrow
            go_wp2_with fail
            obtain ⟨q1, q2, q3⟩ := X9.sets (.int .i64 T) (.int .i64 P) (.int .i64 S) (.int .i64 M) (.slice aL n cL) (.slice (some ⟨g5, 0, none⟩) (m + 1) cap5)
            refine bodyPost_ret (resC38 _ _ _ _ _ _ _ _ _ _ rfl rfl q1) rfl ?_
            exact HEND.out _ _ _ q1 q2 q3 X9
          · skip
            go_simp
            have bn4 : Below w6.heap.size w6 (wa1.alloc (.cells #[.slice a0 n0 c0, .slice a1 n1 c1, .slice a2 n2 c2, .slice a3 n3 c3, .slice a4 n4 c4] 51)) := bn1.alloc bn1.size _
            refine hK.out _ _ ⟨trivial, fun _ => TT _ bn4⟩ ?_
            clear hK K
            have hn4 : Blk (wa1.alloc (.cells #[.slice a0 n0 c0, .slice a1 n1 c1, .slice a2 n2 c2, .slice a3 n3 c3, .slice a4 n4 c4] 51)) wa1.heap.size 51 #[.slice a0 n0 c0, .slice a1 n1 c1, .slice a2 n2 c2, .slice a3 n3 c3, .slice a4 n4 c4] := Blk.new wa1 51 _
            have hb4 : w6.heap.size ≤ wa1.heap.size := bn1.size
            have hc4 := hn1.kept (Kept.of_below ((Below.refl wa1.heap.size wa1).alloc (Nat.le_refl _) (.cells #[.slice a0 n0 c0, .slice a1 n1 c1, .slice a2 n2 c2, .slice a3 n3 c3, .slice a4 n4 c4] 51)) (fun _ => False)) id
            generalize wa1.alloc (.cells #[.slice a0 n0 c0, .slice a1 n1 c1, .slice a2 n2 c2, .slice a3 n3 c3, .slice a4 n4 c4] 51) = wa4 at *
            generalize wa1.heap.size = pa4 at *
            refine AnyG.ready (rs := [10]) (by kernel_rfl) (by simp) ?_
            refine AllG.cons rfl (fun K hK => ?_) AllG.nil
            refine step_copy rfl (.tmp 61) (.tmp 67) 44 rfl w6.heap.size 51 i0 (.agg #[.slice none 0 0, .slice none 0 0, .slice none 0 0, .slice none 0 0, .slice none 0 0]) 5 120 Tryz.underlying44 hi hz0 hz1 hz2 rfl (by decide) qa1 (by simp [Act.eval]) hc4 hb1 B ar nr cr' (by simp [Act.eval]) rcs (OWN _ bn4) ONES (by unfold maxLen; omega) (by omega) ?_
            intro g15 cap15 wc5 own5 gr5 lt5
            have bc5 : Below w6.heap.size w6 wc5 := bn4.grown gr5 bn4.size (fun k hk => by injection hk with hk; have := hb1; omega)
            refine hK.out _ _ ⟨trivial, fun _ => TT _ bc5⟩ ?_
            clear hK K
            refine AnyG.putAt 68 rfl ?_
            simp only [List.setIfInBounds_toArray, List.set_cons_zero, List.set_cons_succ]
            have hd5 := hn4.kept (Kept.of_grown (S := fun k => k = qa1) gr5 (fun k e => (Option.some.inj e).symm)) (fun e => by rw [e] at hn4; have h := hn4.symm.trans hc4; simp at h)
            refine AnyG.ready (rs := [23]) (by kernel_rfl) (by simp) ?_
            refine AllG.cons rfl (fun K hK => ?_) AllG.nil
            refine step_append_lies wc5 rfl (.tmp 68) (.tmp 80) 44 rfl w6.heap.size 51 i0 (.agg #[.slice none 0 0, .slice none 0 0, .slice none 0 0, .slice none 0 0, .slice none 0 0]) 5 120 Tryz.underlying44 hi hz0 hz1 hz2 rfl (by decide) _ nr rcs (by simp [Act.eval]) own5 ⟨pa4, 0, none⟩ 1 1 [.slice a0 n0 c0, .slice a1 n1 c1, .slice a2 n2 c2, .slice a3 n3 c3, .slice a4 n4 c4] (by simp [Act.eval]) rfl (World.news_of_block hd5) ONE (by decide) (by unfold maxLen; omega) (by omega) bc5.size _ rfl ?_
            intro q8 cap8 w8 hown hgrow hat hlt
            have b8 : Below w6.heap.size w6 w8 := bc5.grown hgrow bc5.size (fun k hk => (own5.lt k hk).1)
            refine hK.out _ _ ⟨trivial, fun _ => TT _ b8⟩ ?_
            clear hK K
            refine AnyG.putAt 81 rfl ?_
            simp only [List.setIfInBounds_toArray, List.set_cons_zero, List.set_cons_succ]
            have h8 := TT w8 b8
            refine .tk 24 82 rfl rfl (by kernel_rfl) (fun _ _ _ h => h) ⟨trivial, fun _ => h8⟩ (by rfl) (fun w hSw => by go_simp; rfl) ?_; simp only [tkA, tkB, tkC]
            refine .tk 25 83 rfl rfl (by kernel_rfl) (fun _ _ _ h => h) ⟨trivial, fun _ => h8⟩ (by rfl) (fun w hSw => by go_simp; rfl) ?_; simp only [tkA, tkB, tkC]
            refine AnyG.ready (rs := [26]) (by kernel_rfl) (by simp) ?_
            refine AllG.cons rfl (fun K hK => ?_) AllG.nil
            obtain ⟨e8, f8⟩ := ROOM.out w8 b8
            have X9 := FIN.out q8 cap8 w8 (owns_mono hown BW) b8
            go_simp
            refine hK.out _ _ ⟨trivial, fun h => by cases h⟩ ?_
            clear hK K
            refine AnyG.done (by kernel_rfl) ?_ _
            generalize w8.setCell _ _ = w9 at *
            obtain ⟨y0, y1, y2, y3, y4, y5⟩ := X9.reads
            obtain ⟨r0, r1, r2, r3, r4, r5, f0, f1, f2, f3, f4, f5⟩ := X9.room
            clear TT OWN ONES ROOM FIN h8 e8 f8 hown hgrow
            go_wp2_with fail
            obtain ⟨q1, q2, q3⟩ := X9.sets (.int .i64 T) (.int .i64 P) (.int .i64 S) (.int .i64 M) (.slice aL n cL) (.slice (some ⟨g5, 0, none⟩) (m + 1) cap5)
            refine bodyPost_ret (resC38 _ _ _ _ _ _ _ _ _ _ rfl rfl q1) rfl ?_
            exact HEND.out _ _ _ q1 q2 q3 X9
        · skip
          go_simp
          have bn6 : Below w6.heap.size w6 (w0.alloc (.cells #[.slice a0 n0 c0, .slice a1 n1 c1, .slice a2 n2 c2, .slice a3 n3 c3, .slice a4 n4 c4] 51)) := bel0.alloc bel0.size _
          refine hK.out _ _ ⟨trivial, fun _ => TT _ bn6⟩ ?_
          clear hK K
          have hn6 : Blk (w0.alloc (.cells #[.slice a0 n0 c0, .slice a1 n1 c1, .slice a2 n2 c2, .slice a3 n3 c3, .slice a4 n4 c4] 51)) w0.heap.size 51 #[.slice a0 n0 c0, .slice a1 n1 c1, .slice a2 n2 c2, .slice a3 n3 c3, .slice a4 n4 c4] := Blk.new w0 51 _
          have hb6 : w6.heap.size ≤ w0.heap.size := bel0.size
          generalize w0.alloc (.cells #[.slice a0 n0 c0, .slice a1 n1 c1, .slice a2 n2 c2, .slice a3 n3 c3, .slice a4 n4 c4] 51) = wa6 at *
          generalize w0.heap.size = pa6 at *
          refine AnyG.ready (rs := [3]) (by kernel_rfl) (by simp) ?_
          refine AllG.cons rfl (fun K hK => ?_) AllG.nil
          go_simp
          have bn7 : Below w6.heap.size w6 (wa6.alloc (.cells #[] 51)) := bn6.alloc bn6.size _
          refine hK.out _ _ ⟨trivial, fun _ => TT _ bn7⟩ ?_
          clear hK K
          have hn7 : Blk (wa6.alloc (.cells #[] 51)) wa6.heap.size 51 #[] := Blk.new wa6 51 _
          have hb7 : w6.heap.size ≤ wa6.heap.size := bn6.size
          have hc7 := hn6.kept (Kept.of_below ((Below.refl wa6.heap.size wa6).alloc (Nat.le_refl _) (.cells #[] 51)) (fun _ => False)) id
          generalize wa6.alloc (.cells #[] 51) = wa7 at *
          generalize wa6.heap.size = qa7 at *
          refine AnyG.ready (rs := [10]) (by kernel_rfl) (by simp) ?_
          refine AllG.cons rfl (fun K hK => ?_) AllG.nil
          refine step_copy rfl (.tmp 61) (.tmp 67) 44 rfl w6.heap.size 51 i0 (.agg #[.slice none 0 0, .slice none 0 0, .slice none 0 0, .slice none 0 0, .slice none 0 0]) 5 120 Tryz.underlying44 hi hz0 hz1 hz2 rfl (by decide) qa7 (by simp [Act.eval]) hn7 hb7 B ar nr cr' (by simp [Act.eval]) rcs (OWN _ bn7) ONES (by unfold maxLen; omega) (by omega) ?_
          intro g18 cap18 wc8 own8 gr8 lt8
          have bc8 : Below w6.heap.size w6 wc8 := bn7.grown gr8 bn7.size (fun k hk => by injection hk with hk; have := hb7; omega)
          refine hK.out _ _ ⟨trivial, fun _ => TT _ bc8⟩ ?_
          clear hK K
          refine AnyG.putAt 68 rfl ?_
          simp only [List.setIfInBounds_toArray, List.set_cons_zero, List.set_cons_succ]
          have hd8 := hc7.kept (Kept.of_grown (S := fun k => k = qa7) gr8 (fun k e => (Option.some.inj e).symm)) (fun e => by rw [e] at hc7; have h := hc7.symm.trans hn7; simp at h)
          refine AnyG.ready (rs := [23]) (by kernel_rfl) (by simp) ?_
          refine AllG.cons rfl (fun K hK => ?_) AllG.nil
          refine step_append_lies wc8 rfl (.tmp 68) (.tmp 80) 44 rfl w6.heap.size 51 i0 (.agg #[.slice none 0 0, .slice none 0 0, .slice none 0 0, .slice none 0 0, .slice none 0 0]) 5 120 Tryz.underlying44 hi hz0 hz1 hz2 rfl (by decide) _ nr rcs (by simp [Act.eval]) own8 ⟨pa6, 0, none⟩ 1 1 [.slice a0 n0 c0, .slice a1 n1 c1, .slice a2 n2 c2, .slice a3 n3 c3, .slice a4 n4 c4] (by simp [Act.eval]) rfl (World.news_of_block hd8) ONE (by decide) (by unfold maxLen; omega) (by omega) bc8.size _ rfl ?_
          intro q8 cap8 w8 hown hgrow hat hlt
          have b8 : Below w6.heap.size w6 w8 := bc8.grown hgrow bc8.size (fun k hk => (own8.lt k hk).1)
          refine hK.out _ _ ⟨trivial, fun _ => TT _ b8⟩ ?_
          clear hK K
          refine AnyG.putAt 81 rfl ?_
          simp only [List.setIfInBounds_toArray, List.set_cons_zero, List.set_cons_succ]
          have h8 := TT w8 b8
          refine .tk 24 82 rfl rfl (by kernel_rfl) (fun _ _ _ h => h) ⟨trivial, fun _ => h8⟩ (by rfl) (fun w hSw => by go_simp; rfl) ?_; simp only [tkA, tkB, tkC]
          refine .tk 25 83 rfl rfl (by kernel_rfl) (fun _ _ _ h => h) ⟨trivial, fun _ => h8⟩ (by rfl) (fun w hSw => by go_simp; rfl) ?_; simp only [tkA, tkB, tkC]
          refine AnyG.ready (rs := [26]) (by kernel_rfl) (by simp) ?_
          refine AllG.cons rfl (fun K hK => ?_) AllG.nil
          obtain ⟨e8, f8⟩ := ROOM.out w8 b8
          have X9 := FIN.out q8 cap8 w8 (owns_mono hown BW) b8
          go_simp
          refine hK.out _ _ ⟨trivial, fun h => by cases h⟩ ?_
          clear hK K
          refine AnyG.done (by kernel_rfl) ?_ _
          generalize w8.setCell _ _ = w9 at *
          obtain ⟨y0, y1, y2, y3, y4, y5⟩ := X9.reads
          obtain ⟨r0, r1, r2, r3, r4, r5, f0, f1, f2, f3, f4, f5⟩ := X9.room
          clear TT OWN ONES ROOM FIN h8 e8 f8 hown hgrow
          go_wp2_with fail
          obtain ⟨q1, q2, q3⟩ := X9.sets (.int .i64 T) (.int .i64 P) (.int .i64 S) (.int .i64 M) (.slice aL n cL) (.slice (some ⟨g5, 0, none⟩) (m + 1) cap5)
          refine bodyPost_ret (resC38 _ _ _ _ _ _ _ _ _ _ rfl rfl q1) rfl ?_
          exact HEND.out _ _ _ q1 q2 q3 X9
      · have gg : decide ((nr : Int) ≥ 8) = true := by simp; omega
        have HEE : Hd (E = 3) := ⟨by rw [HF.out, ← HNR.out]; simp [ifE]; omega⟩
        obtain ⟨r0, r1, r2, r3, r4, r5, f0, f1, f2, f3, f4, f5⟩ := HX.out.1.x.room
        have nr3 := nr2.out
        go_wp2_with fail
        obtain rfl := HEE.out
        obtain ⟨q1, q2, q3⟩ := HX.out.1.x.sets (.int .i64 T) (.int .i64 P) (.int .i64 S) (.int .i64 M) (.slice aL n cL) (.slice (some ⟨g1, 0, none⟩) (m + 1) cS)
        refine bodyPost_ret (resC38 _ _ _ _ _ _ _ _ _ _ rfl rfl q1) rfl ?_
        exact ⟨_, rfl, q2, ⟨_, _, _, _, _, _, _, _, _, _, rfl⟩, fun h => absurd h (by decide)⟩

theorem rrule_no {B : Nat} (a : Option Addr) (c n : Nat) (w : World) (C : Cf) (vL vS : Value) (V : List Value) (hL : LvOwn B w vL C.levels) (hS : ScOwn B w vS C.schemas V) (h : n ≠ 6 ∨ (n = 6 ∧ C.schemas.length = 0)) :
    Calls Tryz.prog 81 #[.agg #[.int .i64 C.total, .int .i64 C.period, .int .i64 C.perSeat, .int .i64 C.most, vL, vS], .slice a n c] w fun e w' => ∃ v, e = .returned (.tuple #[v, .int .i64 2]) ∧ Below w.heap.size w w' ∧ Six v := by
  have X0 : Hd _ := ⟨Bx.start hL hS⟩
  obtain ⟨aL, cL, rfl⟩ := own_form hL
  obtain ⟨aS, cS, rfl⟩ := own_form hS.own
  clear hL hS
  rcases h with h | ⟨rfl, h⟩
  · have n1 : ((n : Int) != 6) = true := by simp; omega
    clear h
    go_enter Tryz.func81, Tryz.ntmps81
    go_upto_region 1 with fail
    generalize hw2 : World.alloc _ _ = w2
    have X2 : Hd (Bx B w w2 C (.slice aL C.levels.length cL) (.slice aS C.schemas.length cS) V) := ⟨by rw [← hw2]; exact X0.out⟩
    clear hw2 X0
    obtain ⟨y0, y1, y2, y3, y4, y5⟩ := X2.out.reads
    obtain ⟨r0, r1, r2, r3, r4, r5, f0, f1, f2, f3, f4, f5⟩ := X2.out.room
    go_wp2_with fail
    obtain ⟨q1, q2, q3⟩ := X2.out.sets (.int .i64 C.total) (.int .i64 C.period) (.int .i64 C.perSeat) (.int .i64 C.most) (.slice aL C.levels.length cL) (.slice aS C.schemas.length cS)
    refine bodyPost_ret (resC38 _ _ _ _ _ _ _ _ _ _ rfl rfl q1) rfl ?_
    exact ⟨_, rfl, q2, ⟨_, _, _, _, _, _, _, _, _, _, rfl⟩⟩
  · rw [h] at X0
    rw [h]
    go_enter Tryz.func81, Tryz.ntmps81
    go_upto_region 1 with fail
    generalize hw2 : World.alloc _ _ = w2
    have X2 : Hd (Bx B w w2 C (.slice aL C.levels.length cL) (.slice aS 0 cS) V) := ⟨by rw [← hw2]; exact X0.out⟩
    clear hw2 X0
    obtain ⟨y0, y1, y2, y3, y4, y5⟩ := X2.out.reads
    obtain ⟨r0, r1, r2, r3, r4, r5, f0, f1, f2, f3, f4, f5⟩ := X2.out.room
    go_wp2_with fail
    obtain ⟨q1, q2, q3⟩ := X2.out.sets (.int .i64 C.total) (.int .i64 C.period) (.int .i64 C.perSeat) (.int .i64 C.most) (.slice aL C.levels.length cL) (.slice aS 0 cS)
    refine bodyPost_ret (resC38 _ _ _ _ _ _ _ _ _ _ rfl rfl q1) rfl ?_
    exact ⟨_, rfl, q2, ⟨_, _, _, _, _, _, _, _, _, _, rfl⟩⟩

theorem rrule_ok {B : Nat} (a : Option Addr) (c : Nat) (ws : List ByteArray) (w : World) (C : Cf) (v : Value) (hv : CfV B w v C) (hr : RowL w a ws) (hl : 0 < ws.length) (hsz : ∀ k, (gt ws k).size ≤ 65536) (hns : C.schemas.length ≤ 32) (hB : B ≤ w.heap.size) :
    Calls Tryz.prog 81 #[v, .slice a ws.length c] w fun e w' => ∃ v', e = .returned (.tuple #[v', .int .i64 (ruleE C ws.tail)]) ∧ Below w.heap.size w w' ∧ Six v'
      ∧ (ruleE C ws.tail = 0 → CfV B w' v' ⟨C.total, C.period, C.perSeat, C.most, C.levels, addRule (ruleOf ws.tail) C.schemas⟩) := by
  obtain ⟨vL, vS, V, rfl, hL, hS⟩ := hv
  obtain ⟨b, off, rfl, hb, hc⟩ := hr hl
  by_cases h6 : ws.length = 6 ∧ C.schemas.length ≠ 0
  · obtain ⟨h6, h0⟩ := h6
    rcases C with ⟨T, P, S, M, lv, sc⟩
    dsimp only at *
    obtain ⟨ini, s, rfl⟩ : ∃ ini s, sc = ini ++ [s] := by
      have hne : sc ≠ [] := fun e => h0 (by rw [e]; rfl)
      exact ⟨sc.dropLast, sc.getLast hne, (List.dropLast_concat_getLast hne).symm⟩
    have := rrule_go b off c ws w T P S M lv ini s vL vS V hL hS hb hc h6 hsz hns hB
    rw [h6]
    exact this
  · have e2 : ruleE C ws.tail = 2 := rule_none (by
      by_cases h : ws.length = 6
      · right
        exact Classical.byContradiction fun h0 => h6 ⟨h, h0⟩
      · left
        rw [List.length_tail]
        omega)
    rw [e2]
    refine (rrule_no (some ⟨b, off, none⟩) c ws.length w C vL vS V hL hS (by
      by_cases h : ws.length = 6
      · right
        exact ⟨h, Classical.byContradiction fun h0 => h6 ⟨h, h0⟩⟩
      · left
        exact h)).mono ?_
    rintro e w' ⟨v, rfl, hb, h6⟩
    exact ⟨v, rfl, hb, h6, fun h => absurd h (by decide)⟩

end Go.Proofs.YtlkoaldekmdcoaaGreatDoor
