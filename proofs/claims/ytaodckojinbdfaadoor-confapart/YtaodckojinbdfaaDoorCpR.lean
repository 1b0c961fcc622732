/-
  A configuration as 'Parse' lays it: how it is read, what room it has, and what stays when blocks below a mark are written. No condition.
-/
import Derived.Test.YtaodckojinbdfaaDoorCpZ
import Derived.Test.YtaodckojinbdfaaDoorPrC
namespace Go.Proofs.YtaodckojinbdfaaDoor.Cp
open Go.RowKit

/-- A configuration as a value. -/
def CfB (B : Nat) (w : World) (v : Value) (C : Cf) : Prop :=
  ∃ vL vS V, v = .agg #[.int .i64 C.total, .int .i64 C.period, .int .i64 C.perSeat, .int .i64 C.most, vL, vS] ∧ LvOwn B w vL C.levels ∧ ScOwn B w vS C.schemas V
/-- Five lists of a rule. -/
def RuB (B : Nat) (w : World) (q : Q5) (r : Rl) : Prop := Lst B w q.v0 r.users ∧ Lst B w q.v1 r.groups ∧ Lst B w q.v2 r.verbs ∧ Lst B w q.v3 r.resources ∧ Lst B w q.v4 r.spaces
theorem rlsv_q {B : Nat} {w : World} : ∀ (cs : List Value) (rs : List Rl), RlsV B w cs rs → ∃ Q : List Q5, cs = q5C Q ∧ Q.length = rs.length ∧ ∀ k (h : k < rs.length) (h' : k < Q.length), RuB B w Q[k] rs[k]
  | cs, [], h => ⟨[], h, rfl, fun k hk => absurd hk (Nat.not_lt_zero _)⟩
  | cs, r :: rs, h => by
    obtain ⟨c, cs', rfl, ⟨v0, v1, v2, v3, v4, rfl, h0, h1, h2, h3, h4⟩, ht⟩ := h
    obtain ⟨Q, rfl, hl, hq⟩ := rlsv_q cs' rs ht
    refine ⟨⟨v0, v1, v2, v3, v4⟩ :: Q, rfl, by simp [hl], fun k hk hk' => ?_⟩
    cases k with
    | zero => exact ⟨h0, h1, h2, h3, h4⟩
    | succ k => exact hq k (by simpa using hk) (by simpa using hk')
theorem RowY.abv {B N : Nat} {w w' : World} {a : Option Addr} {L : List ByteArray} (h : RowY N w a L) (k : Kept (fun k => B ≤ k ∧ k < N) w w') : RowY N w' a L := fun hn => by
  obtain ⟨b, off, cur, f, e, hB, hb, hc⟩ := h hn
  refine ⟨b, off, cur, f, e, hB, (k.block b ?_ (fun hs => by have := hB.1; omega)).trans hb, hc⟩
  rcases Nat.lt_or_ge b w.heap.size with h1 | h1
  · exact h1
  · rw [Array.getElem?_eq_none h1] at hb; cases hb
theorem lst_abv {B N : Nat} {w w' : World} {v : Value} {L : List ByteArray} (h : Lst N w v L) (k : Kept (fun k => B ≤ k ∧ k < N) w w') : Lst N w' v L := by
  obtain ⟨a, c, e, hr, hc⟩ := h
  exact ⟨a, c, e, RowY.abv hr k, hc⟩
theorem owns_abv {B N e size n : Nat} {w w' : World} {v : Value} {xs : List Value} (h : w.ownsRow N e size v n xs) (k : Kept (fun k => B ≤ k ∧ k < N) w w') : w'.ownsRow N e size v n xs :=
  owns_kept h k fun g hg hs => by have := (h.lt g hg).1; omega
theorem rlsv_abv {B N : Nat} {w w' : World} (k : Kept (fun k => B ≤ k ∧ k < N) w w') : ∀ (cs : List Value) (rs : List Rl), RlsV N w cs rs → RlsV N w' cs rs
  | _, [], h => h
  | _, _ :: rs, ⟨c, cs', e, ⟨v0, v1, v2, v3, v4, e2, h0, h1, h2, h3, h4⟩, ht⟩ => ⟨c, cs', e, ⟨v0, v1, v2, v3, v4, e2, lst_abv h0 k, lst_abv h1 k, lst_abv h2 k, lst_abv h3 k, lst_abv h4 k⟩, rlsv_abv k cs' rs ht⟩
theorem cfb_abv {B N : Nat} {w w' : World} {v : Value} {C : Cf} (h : CfB N w v C) (k : Kept (fun k => B ≤ k ∧ k < N) w w') : CfB N w' v C := by
  obtain ⟨vL, vS, V, e, hL, hS⟩ := h
  refine ⟨vL, vS, V, e, owns_abv hL k, ⟨hS.len, owns_abv hS.own k, fun i h1 h2 => ?_⟩⟩
  obtain ⟨cs, ho, hr⟩ := hS.rls i h1 h2
  exact ⟨cs, owns_abv ho k, rlsv_abv k cs _ hr⟩
theorem cfw_abv {B N M : Nat} {w w' : World} {v : Value} {C : Cf} (h : CfW M w v C) (hN : N ≤ M) (k : Kept (fun k => B ≤ k ∧ k < N) w w') : CfW N w' v C := by
  obtain ⟨vL, vS, V, e, hL, hS⟩ := h.ex
  refine ⟨vL, vS, V, e, owns_abv (owns_mono hL hN) k, ⟨hS.len, owns_abv (owns_mono hS.own hN) k, fun i h1 h2 => ?_, hS.dj⟩⟩
  obtain ⟨Q, hl, ho, hr⟩ := (hS.rls i h1 h2).ex
  exact ⟨Q, hl, owns_abv (owns_mono ho hN) k, fun j g1 g2 => by
    obtain ⟨r0, r1, r2, r3, r4⟩ := hr j g1 g2
    exact ⟨owns_abv (owns_mono r0 hN) k, owns_abv (owns_mono r1 hN) k, owns_abv (owns_mono r2 hN) k, owns_abv (owns_mono r3 hN) k, owns_abv (owns_mono r4 hN) k⟩⟩
/-- How it is read. -/
theorem lst_read {B : Nat} {w : World} {v : Value} {L : List ByteArray} (h : Lst B w v L) (f : LsF L) : LsR w v L := by
  obtain ⟨a, c, e, hr, hc, hl⟩ := h
  exact ⟨a, c, e, hr.row, hc, f.1, f.2⟩
theorem rl_read {B : Nat} {w : World} {v : Value} {rs : List Rl} (h : RlOwn B w v rs) (f : rs.length ≤ 9223372036854775807) (f' : ∀ r ∈ rs, RlF r) : RlR w v rs := by
  obtain ⟨cs, ho, hv⟩ := h
  obtain ⟨Q, rfl, hQ, hr⟩ := rlsv_q cs rs hv
  obtain ⟨a, c, rfl, hc, hrow⟩ := owns_read ho
  refine ⟨a, c, rfl, f, fun hn => ?_⟩
  obtain ⟨g, cur, rfl, -, hg, -, hcs⟩ := hrow hn
  refine ⟨g, 0, rfl, hg.lt, fun k hk => ?_⟩
  have hkQ : k < Q.length := by omega
  obtain ⟨r0, r1, r2, r3, r4⟩ := hr k hk hkQ
  obtain ⟨f0, f1, f2, f3, f4⟩ := f' _ (List.getElem_mem hk)
  refine ⟨Q[k].v0, Q[k].v1, Q[k].v2, Q[k].v3, Q[k].v4, ⟨?_, ?_, ?_, ?_, ?_⟩, lst_read r0 f0, lst_read r1 f1, lst_read r2 f2, lst_read r3 f3, lst_read r4 f4⟩
  · rw [Nat.zero_add]; exact hcs (k * 5) _ (by have := q5C_at Q k 0 hkQ (by decide); simpa [q5L] using this)
  · rw [Nat.zero_add]; exact hcs (k * 5 + 1) _ (by have := q5C_at Q k 1 hkQ (by decide); simpa [q5L] using this)
  · rw [Nat.zero_add]; exact hcs (k * 5 + 2) _ (by have := q5C_at Q k 2 hkQ (by decide); simpa [q5L] using this)
  · rw [Nat.zero_add]; exact hcs (k * 5 + 3) _ (by have := q5C_at Q k 3 hkQ (by decide); simpa [q5L] using this)
  · rw [Nat.zero_add]; exact hcs (k * 5 + 4) _ (by have := q5C_at Q k 4 hkQ (by decide); simpa [q5L] using this)
theorem cfb_read {B : Nat} {w : World} {v : Value} {C : Cf} (h : CfB B w v C) (f : Fits C) : CfR w v C := by
  obtain ⟨vL, vS, V, rfl, h1, h2⟩ := h
  obtain ⟨a, c, rfl, hc, hL⟩ := LvW.read (B := B) h1
  obtain ⟨a', c', rfl, hc', hrow⟩ := owns_read h2.own
  refine ⟨f.sz, f.nm, a, c, a', c', V, rfl, hc, hc', hL, h2.len, fun hn => ?_, fun k hk hk' => rl_read (h2.rls k hk hk') (f.rl _ (List.getElem_mem hk)).1 (f.rl _ (List.getElem_mem hk)).2⟩
  obtain ⟨g, cur, rfl, -, hg, -, hcs⟩ := hrow hn
  refine ⟨g, 0, rfl, hg.lt, fun k hk hk' j hj => ?_⟩
  have g1 := scCs_at C.schemas V k j hk hk' hj
  have g2 : j < (scC C.schemas[k] V[k]).length := by simpa [scC] using hj
  rw [List.getElem?_eq_getElem g2] at g1 ⊢
  rw [Nat.zero_add]
  exact hcs _ _ g1
/-- The room in it. -/
theorem lst_room {B N : Nat} {w : World} {v : Value} {L : List ByteArray} (h : Lst B w v L) (hN : w.heap.size ≤ N) : LsZ B N w v := by
  obtain ⟨a, c, e, hr, hc, hl⟩ := h
  refine ⟨a, L.length, c, e, by omega, fun hn => ?_⟩
  obtain ⟨b, off, cur, f, ea, ⟨hB, rfl⟩, hb, hcs⟩ := hr hn
  have hb' : Blk w b 9 cur := hb
  refine ⟨b, off, ea, ⟨hB, by have := hb'.lt; omega⟩, cur, hb', ?_⟩
  have h1 := hcs (L.length - 1) (by omega)
  rcases Nat.lt_or_ge (off + (L.length - 1)) cur.size with h2 | h2
  · omega
  · rw [Array.getElem?_eq_none h2] at h1; cases h1
theorem cfb_room {B N : Nat} {w : World} {C : Cf} {y0 y1 y2 y3 : Value} {eL eS : Option Addr} {nn mm cL cS : Nat} (h : CfB B w (.agg #[y0, y1, y2, y3, .slice eL nn cL, .slice eS mm cS]) C) (hb : Bnd 70000 C) (hN : w.heap.size ≤ N) : ∃ V, Zv B N w eL nn eS mm V ∧ nn ≤ 70000 ∧ mm ≤ 70000 := by
  obtain ⟨vL, vS, V, e, h1, h2⟩ := h
  injection e with e
  simp only [Array.mk.injEq, List.cons.injEq, and_true] at e
  obtain ⟨-, -, -, -, rfl, rfl⟩ := e
  obtain ⟨a, c, e1, hc1, hrow1⟩ := owns_read h1
  obtain ⟨a', c', e2, hc2, hrow2⟩ := owns_read h2.own
  injection e1 with e1a e1b e1c
  injection e2 with e2a e2b e2c
  subst e1a e1b e1c e2a e2b e2c
  refine ⟨V, ⟨fun hn => ?_, fun hn => ?_, fun k hk => ?_, h2.len⟩, hb.lv, hb.sc⟩
  · obtain ⟨g, cur, ea, hB, hg, hs, -⟩ := hrow1 hn
    exact ⟨g, ea, ⟨hB, by have := hg.lt; omega⟩, cur, hg, by rw [hs]; exact Nat.mul_le_mul_right 10 hc1⟩
  · obtain ⟨g, cur, ea, -, hg, -, hcs⟩ := hrow2 hn
    refine ⟨g, cur, ea, hg, fun k hk => ?_⟩
    have hk' : k < C.schemas.length := by rw [← h2.len]; exact hk
    have g1 := scCs_at C.schemas V k 4 hk' hk (by decide)
    rw [← hg.cell]
    exact hcs _ _ g1
  · have hk' : k < C.schemas.length := by rw [← h2.len]; exact hk
    obtain ⟨cs, ho, hv⟩ := h2.rls k hk' hk
    obtain ⟨Q, rfl, hQ, hr⟩ := rlsv_q cs _ hv
    obtain ⟨a, c, e3, hc3, hrow3⟩ := owns_read ho
    have hrn := (hb.rl _ (List.getElem_mem hk')).1
    refine ⟨a, _, c, e3, by omega, fun hn => ?_⟩
    obtain ⟨g, cur, ea, hB, hg, hs, hcs⟩ := hrow3 hn
    refine ⟨g, cur, ea, ⟨hB, by have := hg.lt; omega⟩, hg, by rw [hs]; exact Nat.mul_le_mul_right 5 hc3, fun i hi => ?_⟩
    have hiQ : i / 5 < Q.length := by omega
    have e1 : i / 5 * 5 + i % 5 = i := by omega
    have e2 := q5C_at Q (i / 5) (i % 5) hiQ (Nat.mod_lt _ (by decide))
    rw [e1] at e2
    obtain ⟨r0, r1, r2, r3, r4⟩ := hr (i / 5) (by omega) hiQ
    have pick : ∀ j, j < 5 → ∃ v, (q5L Q[i / 5])[j]? = some v ∧ LsZ B N w v := fun j hj => by
      match j, hj with
      | 0, _ => exact ⟨_, rfl, lst_room r0 hN⟩
      | 1, _ => exact ⟨_, rfl, lst_room r1 hN⟩
      | 2, _ => exact ⟨_, rfl, lst_room r2 hN⟩
      | 3, _ => exact ⟨_, rfl, lst_room r3 hN⟩
      | 4, _ => exact ⟨_, rfl, lst_room r4 hN⟩
    obtain ⟨v, p1, p2⟩ := pick (i % 5) (Nat.mod_lt _ (by decide))
    rw [p1] at e2
    exact ⟨v, by rw [← hg.cell]; exact hcs _ _ e2, p2⟩
/-- What is read is formed, and so it is bounded. -/
theorem goC_err : ∀ (L : List ByteArray) (C : Cf), goE C L ≠ 0 → goC C L = cf0
  | [], C, h => absurd rfl h
  | l :: r, C, h => by
    unfold goE at h
    unfold goC
    split at h
    · rename_i h1; rw [if_pos h1]; exact goC_err r _ h
    · rename_i h1; rw [if_neg h1]
theorem par_any (s : ByteArray) : Formed (parC s) := by
  by_cases h : parE s = 0
  · exact (par_formed h).1
  · have : parC s = cf0 := by
      unfold parE at h
      unfold parC
      split
      · rfl
      · rename_i h1
        rw [if_neg h1] at h
        exact goC_err _ _ h
    rw [this]
    exact ⟨by decide, by decide, .inl ⟨rfl, rfl⟩, by decide, (fun _ h => nomatch h), List.Pairwise.nil, by decide, (fun _ h => nomatch h), List.Pairwise.nil⟩
theorem joinB_ok {L : List ByteArray} (h : joinB L ≠ mk []) : L.length ≤ 8 ∧ ∀ x ∈ L, x.size ≤ 64 := by
  unfold joinB at h
  by_cases h0 : L = []
  · subst h0; exact ⟨by decide, fun x hx => nomatch hx⟩
  · rw [if_neg h0] at h
    by_cases h1 : L = [mk [42]]
    · subst h1; exact ⟨by decide, fun x hx => by rw [List.mem_singleton.1 hx]; decide⟩
    · rw [if_neg h1] at h
      by_cases h2 : good L = true
      · exact ⟨(good_iff.1 h2).1, fun x hx => word_short (good_words (good_iff.1 h2) x hx)⟩
      · rw [if_neg h2] at h
        exact absurd rfl h
theorem name_le {x : ByteArray} (h : isName x = true) : x.size ≤ 1000 := by
  unfold isName at h
  simp only [Bool.and_eq_true, decide_eq_true_eq] at h
  omega
theorem formed_all {C : Cf} (h : Formed C) : Bnd 70000 C ∧ Fits C := by
  have key : ∀ s ∈ C.schemas, s.rules.length ≤ 8 ∧ ∀ r ∈ s.rules, RlN 8 r ∧ RlF r := fun s hs => by
    have h1 := h.sc s hs
    unfold scOk rlsOk at h1
    simp only [Bool.and_eq_true, decide_eq_true_eq, List.all_eq_true] at h1
    obtain ⟨-, -, -, -, h2, h3⟩ := h1
    refine ⟨h2, fun r hr => ?_⟩
    obtain ⟨j0, j1, j2, j3, j4⟩ := rlOk_iff.1 (h3 r hr)
    have l0 := joinB_ok j0
    have l1 := joinB_ok j1
    have l2 := joinB_ok j2
    have l3 := joinB_ok j3
    have l4 := joinB_ok j4
    exact ⟨⟨l0.1, l1.1, l2.1, l3.1, l4.1⟩, ⟨by omega, fun x hx => by have := l0.2 x hx; omega⟩, ⟨by omega, fun x hx => by have := l1.2 x hx; omega⟩, ⟨by omega, fun x hx => by have := l2.2 x hx; omega⟩, ⟨by omega, fun x hx => by have := l3.2 x hx; omega⟩, ⟨by omega, fun x hx => by have := l4.2 x hx; omega⟩⟩
  have n1 := h.nl
  have n2 := h.ns
  refine ⟨⟨by omega, by omega, fun s hs => ⟨by have := (key s hs).1; omega, fun r hr => by obtain ⟨⟨a, b, c, d, e⟩, -⟩ := (key s hs).2 r hr; exact ⟨by omega, by omega, by omega, by omega, by omega⟩⟩⟩, ⟨⟨by omega, by omega⟩, ⟨fun l hl => ?_, fun s hs => ?_⟩, fun s hs => ⟨by have := (key s hs).1; omega, fun r hr => ((key s hs).2 r hr).2⟩⟩⟩
  · have := name_le (lvOk_iff.1 (h.lv l hl)).1
    omega
  · have h1 := h.sc s hs
    unfold scOk at h1
    simp only [Bool.and_eq_true] at h1
    have a := name_le h1.1
    have b := name_le h1.2.1
    omega
end Go.Proofs.YtaodckojinbdfaaDoor.Cp
