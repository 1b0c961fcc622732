/-
  Rows of lanes that are appended. Conditions: the rows lie in memory, and are short.
-/
import Derived.Test.YtemmkkcfjhmomabFc
namespace Go.Proofs.Ytemmkkcfjhmomab
open Go.RowKit

/-- Lanes are appended to a row of the call's own, whether they are nil, empty or not. -/
theorem wp_lzs {o : Oper} {a : Act} {w : World} {K : Act → World → Prop} {Q : Exit → Act → World → Prop} (s x : Operand)
    (ho : o.op = .call { callee := .builtin .append, args := #[s, x], argTypes := #[23, 23] })
    (B : Nat) (v : Value) (Z M : List Lz) (hs : a.eval s = v) (hown : w.ownsRow B 38 2 v Z.length (zCs Z)) (ad : Option Addr) (n c : Nat) (hn : M.length = n) (hx : a.eval x = .slice ad n c) (hc0 : n ≤ c) (hc1 : ad = none → c = 0) (hrow : RowR w ad (zCs M)) (h1 : ∀ z ∈ M, ∃ a n c, z.2 = .slice a n c) (hb : Z.length + M.length ≤ 5000) (hB : B ≤ w.heap.size)
    (h : ∀ v' w', w'.ownsRow B 38 2 v' (Z.length + n) (zCs (Z ++ M)) → w.grownBy w' v.ownBlock → K (a.put o.dst v') w') : o.wp Try.prog a w K Q := by
  obtain ⟨i0, hi, hz0, hz1, hz2⟩ := info_parts Try.info38
  subst hn
  cases ad with
  | none =>
    have hc := hc1 rfl
    have hM : M = [] := List.eq_nil_of_length_eq_zero (by omega)
    subst hM
    subst hc
    have hrun := run_append_owned_none (P := Try.prog) (w := w) B 23 o.type 38 i0 2 Try.underlying23 hi v Z.length (zCs Z) hown
    unfold Oper.wp
    simp only [List.length_nil] at hx
    simp [execOp, ho, resolve, invoke, builtin, hs, hx, hrun, Result.andThen]
    exact h v w (by rw [List.append_nil]; exact hown) (grownBy_refl w _)
  | some ad =>
    refine wp_append_own w s x 23 ho B 38 i0 (.agg #[.int .u64 0, .slice none 0 0]) 2 32 Try.underlying23 hi hz0 hz1 hz2 rfl (by decide) v Z.length (zCs Z) hs hown ad M.length c (zCs M) hx (zCs_len M) hrow.cells (zCs_one h1) (by unfold maxLen; omega) (by omega) hB ?_
    intro v' w' h1 h2 _
    refine h v' w' ?_ h2
    rw [zCs_append]
    exact h1
theorem OwL.app {w w' : World} {B : Nat} {v v' : Value} {F : List Ln} {Z M : List Lz} (hZ : Z.map Prod.fst = F) (ho : w.ownsRow B 38 2 v Z.length (zCs Z)) (hz : ∀ z ∈ Z, OwnT w B z.2 z.1.L) (hm : ∀ z ∈ M, OwnT w B z.2 z.1.L)
    (h : w'.ownsRow B 38 2 v' (Z.length + M.length) (zCs (Z ++ M))) (g : w.grownBy w' v.ownBlock) : OwL w' B v' (F ++ M.map Prod.fst) := by
  have K : Kept (fun k => v.ownBlock = some k) w w' := Kept.of_grown g (fun k e => e)
  have T : ∀ z : Lz, OwnT w B z.2 z.1.L → OwnT w' B z.2 z.1.L := fun z hz => by
    refine ⟨hz.1, hz.2.imp id ?_⟩
    rintro ⟨b, cap, cur, e, hb, hg, r⟩
    refine ⟨b, cap, cur, e, hb, ?_, r⟩
    have hlt : b < w.heap.size := by
      rcases Nat.lt_or_ge b w.heap.size with h1 | h1
      · exact h1
      · rw [Array.getElem?_eq_none h1] at hg; cases hg
    rw [K.block b hlt (by
      intro e
      rcases ho.2 with ⟨rfl, -⟩ | ⟨q, cap', cur', rfl, hb', hg', -⟩
      · cases e
      · injection e with e
        have e : q = b := e
        subst e
        rw [hg] at hg'
        injection hg' with hg'
        injection hg' with x1 x2 x3
        cases x2)]
    exact hg
  refine ⟨Z ++ M, by rw [List.map_append, hZ], ?_, fun z h => ?_⟩
  · have hl : Z.length = F.length := by rw [← hZ, List.length_map]
    rw [List.length_append, List.length_map, ← hl]
    exact h
  · rcases List.mem_append.1 h with c | c
    · exact T z (hz z c)
    · exact T z (hm z c)
/-- The same over what is known of a list alone. -/
theorem wp_own {o : Oper} {a : Act} {w : World} {K : Act → World → Prop} {Q : Exit → Act → World → Prop} (s x : Operand)
    (ho : o.op = .call { callee := .builtin .append, args := #[s, x], argTypes := #[23, 23] })
    (B : Nat) (v : Value) (F : List Ln) (M : List Lz) (hs : a.eval s = v) (hown : OwL w B v F) (ad : Option Addr) (n c : Nat) (hn : M.length = n) (hx : a.eval x = .slice ad n c) (hc0 : n ≤ c) (hc1 : ad = none → c = 0) (hrow : RowR w ad (zCs M)) (hm : ∀ z ∈ M, OwnT w B z.2 z.1.L) (hb : F.length + M.length ≤ 5000) (hB : B ≤ w.heap.size)
    (h : ∀ v' w', OwL w' B v' (F ++ M.map Prod.fst) → w.grownBy w' v.ownBlock → K (a.put o.dst v') w') : o.wp Try.prog a w K Q := by
  obtain ⟨Z, hZ, hr, hz⟩ := hown
  have hl : Z.length = F.length := by rw [← hZ, List.length_map]
  rw [← hl] at hr
  refine wp_lzs s x ho B v Z M hs hr ad n c hn hx hc0 hc1 hrow (fun z h => by obtain ⟨a, c, e, -⟩ := (hm z h).read; exact ⟨a, _, c, e⟩) (by omega) hB fun v' w' h1 h2 => h v' w' (OwL.app hZ hr hz hm (by rw [hn]; exact h1) h2) h2
theorem wpl_own {ops : Array Oper} {rest : List Oper} {o : Oper} {a : Act} {w : World} {Q : Exit → Act → World → Prop} (hgd : o.guard = none) (s x : Operand)
    (ho : o.op = .call { callee := .builtin .append, args := #[s, x], argTypes := #[23, 23] })
    (B : Nat) (v : Value) (F : List Ln) (M : List Lz) (hs : a.eval s = v) (hown : OwL w B v F) (ad : Option Addr) (n c : Nat) (hn : M.length = n) (hx : a.eval x = .slice ad n c) (hc0 : n ≤ c) (hc1 : ad = none → c = 0) (hrow : RowR w ad (zCs M)) (hm : ∀ z ∈ M, OwnT w B z.2 z.1.L) (hb : F.length + M.length ≤ 5000) (hB : B ≤ w.heap.size)
    (h : ∀ v' w', OwL w' B v' (F ++ M.map Prod.fst) → w.grownBy w' v.ownBlock → wpList Try.prog ops Q rest (a.put o.dst v') w') : wpList Try.prog ops Q (o :: rest) a w :=
  wpList_plain hgd fun _ hK => wp_own s x ho B v F M hs hown ad n c hn hx hc0 hc1 hrow hm hb hB fun v' w' h1 h2 => hK _ _ (h v' w' h1 h2)
theorem wpl_lzs {ops : Array Oper} {rest : List Oper} {o : Oper} {a : Act} {w : World} {Q : Exit → Act → World → Prop} (hgd : o.guard = none) (s x : Operand)
    (ho : o.op = .call { callee := .builtin .append, args := #[s, x], argTypes := #[23, 23] })
    (B : Nat) (v : Value) (Z M : List Lz) (hs : a.eval s = v) (hown : w.ownsRow B 38 2 v Z.length (zCs Z)) (ad : Option Addr) (n c : Nat) (hn : M.length = n) (hx : a.eval x = .slice ad n c) (hc0 : n ≤ c) (hc1 : ad = none → c = 0) (hrow : RowR w ad (zCs M)) (h1 : ∀ z ∈ M, ∃ a n c, z.2 = .slice a n c) (hb : Z.length + M.length ≤ 5000) (hB : B ≤ w.heap.size)
    (h : ∀ v' w', w'.ownsRow B 38 2 v' (Z.length + n) (zCs (Z ++ M)) → w.grownBy w' v.ownBlock → wpList Try.prog ops Q rest (a.put o.dst v') w') : wpList Try.prog ops Q (o :: rest) a w :=
  wpList_plain hgd fun _ hK => wp_lzs s x ho B v Z M hs hown ad n c hn hx hc0 hc1 hrow h1 hb hB fun v' w' h1 h2 => hK _ _ (h v' w' h1 h2)
theorem step_own {ops : Array Oper} {o : Oper} {a : Act} {w : World} {K : Act → World → Prop} {Q : Exit → Act → World → Prop} {E : Prop} (hgd : o.guard = none) (s x : Operand)
    (ho : o.op = .call { callee := .builtin .append, args := #[s, x], argTypes := #[23, 23] })
    (B : Nat) (v : Value) (F : List Ln) (M : List Lz) (hs : a.eval s = v) (hown : OwL w B v F) (ad : Option Addr) (n c : Nat) (hn : M.length = n) (hx : a.eval x = .slice ad n c) (hc0 : n ≤ c) (hc1 : ad = none → c = 0) (hrow : RowR w ad (zCs M)) (hm : ∀ z ∈ M, OwnT w B z.2 z.1.L) (hb : F.length + M.length ≤ 5000) (hB : B ≤ w.heap.size)
    (h : ∀ v' w', OwL w' B v' (F ++ M.map Prod.fst) → w.grownBy w' v.ownBlock → K (a.put o.dst v') w') :
    if Region.wanted o (yielded ops a.tmps) = true then Oper.wp Try.prog o a w K Q else E := by
  have hw : Region.wanted o (yielded ops a.tmps) = true := by simp [Region.wanted, hgd]
  rw [if_pos hw]
  exact wp_own s x ho B v F M hs hown ad n c hn hx hc0 hc1 hrow hm hb hB h
theorem step_lzs {ops : Array Oper} {o : Oper} {a : Act} {w : World} {K : Act → World → Prop} {Q : Exit → Act → World → Prop} {E : Prop} (hgd : o.guard = none) (s x : Operand)
    (ho : o.op = .call { callee := .builtin .append, args := #[s, x], argTypes := #[23, 23] })
    (B : Nat) (v : Value) (Z M : List Lz) (hs : a.eval s = v) (hown : w.ownsRow B 38 2 v Z.length (zCs Z)) (ad : Option Addr) (n c : Nat) (hn : M.length = n) (hx : a.eval x = .slice ad n c) (hc0 : n ≤ c) (hc1 : ad = none → c = 0) (hrow : RowR w ad (zCs M)) (h1 : ∀ z ∈ M, ∃ a n c, z.2 = .slice a n c) (hb : Z.length + M.length ≤ 5000) (hB : B ≤ w.heap.size)
    (h : ∀ v' w', w'.ownsRow B 38 2 v' (Z.length + n) (zCs (Z ++ M)) → w.grownBy w' v.ownBlock → K (a.put o.dst v') w') :
    if Region.wanted o (yielded ops a.tmps) = true then Oper.wp Try.prog o a w K Q else E := by
  have hw : Region.wanted o (yielded ops a.tmps) = true := by simp [Region.wanted, hgd]
  rw [if_pos hw]
  exact wp_lzs s x ho B v Z M hs hown ad n c hn hx hc0 hc1 hrow h1 hb hB h
theorem OwL.lt {w : World} {B : Nat} {v : Value} {F : List Ln} (h : OwL w B v F) : ∀ q, v.ownBlock = some q → B ≤ q ∧ q < w.heap.size := by
  obtain ⟨Z, -, hr, -⟩ := h
  exact hr.lt
theorem OwL.below {a w w' : World} {B : Nat} {v : Value} {F : List Ln} (h : OwL w B v F) (hb : Below B a w) (hB : B ≤ w.heap.size) (g : w.grownBy w' v.ownBlock) : Below B a w' := hb.grown g hB (fun q e => (h.lt q e).1)
theorem OwL.nil (w : World) (B : Nat) : OwL w B (.slice none 0 0) [] := ⟨[], rfl, World.ownsRow_nil _ _ _ _, fun _ h => by cases h⟩
theorem lane_row {w : World} {g : Nat} {s : Int} {v : Value} (h : Blk w g 38 (lnA s v)) (l : Ln) (hl : l.s = s) : RowR w (some ⟨g, 0, none⟩) (zCs [(l, v)]) := fun _ => ⟨g, 0, rfl, h.lt, fun j u hj => by
  rw [Nat.zero_add, h.cell]
  subst hl
  simpa [zCs, zC, lnA] using hj⟩
end Go.Proofs.Ytemmkkcfjhmomab
