/-
  Slices.Grow of nothing, slices.Concat of two lists of entries, slices.Clone of one. Conditions: the lists lie in memory, and are short.
-/
import Derived.Test.YtomkmgebbiahcaaBm
import Derived.Lib.AppendZeros
import Derived.Lib.SliceRun
namespace Go.Proofs.Ytomkmgebbiahcaa
open Go.RowKit

/-- A row of the call's own that holds these entries. -/
def OwE (w : World) (B : Nat) (v : Value) (L : List En) : Prop := w.ownsRow B 24 3 v L.length (enCs L)
theorem OwE.add {w : World} {B : Nat} {v : Value} {L : List En} {t : En} (h : w.ownsRow B 24 3 v (L.length + 1) (enCs L ++ enC t)) : OwE w B v (L ++ [t]) := by
  unfold OwE
  rw [List.length_append, enCs_append, enCs_single]
  exact h
theorem one_newK (w : World) (t : En) : ∀ j u, (enC t)[j]? = some u → (w.alloc (.cells (enA t) 24)).cell? ((⟨w.heap.size, 0, none⟩ : Addr).add j) = some u := by
  intro j u hj
  have N := Blk.new w 24 (enA t)
  rw [Go.WideShapes.add_plain, Nat.zero_add, N.cell j]
  simpa [enA, enC] using hj
theorem one_cellK (t : En) : ∀ u ∈ enC t, u.oneCell' = true := by
  intro u hu
  simp [enC] at hu
  rcases hu with rfl | rfl | rfl | rfl | rfl <;> rfl

set_option maxRecDepth 20000 in
set_option maxHeartbeats 1000000 in
theorem grow_ok (m : Nat) (hm : m ≤ 4000) (w : World) :
    Calls Try.prog 22 #[.slice none 0 0, .int .i64 m] w fun e w' => ∃ v, e = .returned v ∧ OwE w' w.heap.size v [] ∧ Below w.heap.size w w' := by
  by_cases h0 : m = 0
  · subst h0
    go_enter Try.func22, Try.ntmps22
    go_wp2
    go_ret
    exact ⟨_, rfl, World.ownsRow_nil _ _ _ _, Below.refl _ _⟩
  · obtain ⟨i0, hi, hz0, hz1, hz2⟩ := info_parts Try.info24
    have hp : 0 < m := by omega
    have hr := Lib.run_append_nil_zeros w 22 3 22 24 i0 (.agg #[.int .i64 0, .int .i64 0, .string ⟨#[]⟩]) .i64 .i64 Try.underlying22 Try.underlying3 hi hz0 m hp (by rw [hz1]; decide) (by omega) (by rw [hz2]; omega)
    have hc : grownCap w m 0 24 ≤ maxLen := grownCap_le_maxLen w m 0 24 (by unfold maxLen; omega)
    have hge : m ≤ grownCap w m 0 24 := grownCap_ge w m 0 24
    have O : Hd (OwE (w.drew.alloc (.cells (Builtin.zeroCells (Value.cells (.agg #[.int .i64 0, .int .i64 0, .string ⟨#[]⟩])) m ++ Builtin.zeroCells (Value.cells (.agg #[.int .i64 0, .int .i64 0, .string ⟨#[]⟩])) (grownCap w m 0 24 - m)) 24)) w.heap.size (.slice (some ⟨w.heap.size, 0, none⟩) 0 (grownCap w m 0 24)) []) :=
      ⟨World.ownsRow_made w.drew _ _ (Nat.le_refl _) hc (by rw [Array.size_append, size_zeroCells, size_zeroCells, ← Nat.add_mul, Nat.add_sub_cancel' hge]; rfl)⟩
    have BB : Hd (Below w.heap.size w (w.drew.alloc (.cells (Builtin.zeroCells (Value.cells (.agg #[.int .i64 0, .int .i64 0, .string ⟨#[]⟩])) m ++ Builtin.zeroCells (Value.cells (.agg #[.int .i64 0, .int .i64 0, .string ⟨#[]⟩])) (grownCap w m 0 24 - m)) 24))) := ⟨((Below.refl w.heap.size w).drew).alloc (Nat.le_refl _) _⟩
    generalize hw9 : w.drew.alloc _ = w9 at *
    generalize grownCap w m 0 24 = cp at *
    go_enter Try.func22, Try.ntmps22
    go_wp2_with (at_builtin; refine Lib.wpList_append_run _ rfl _ _ 22 3 rfl _ _ rfl rfl _ _ hr ?_)
    go_ret
    exact ⟨_, rfl, O.out, BB.out⟩

theorem grownBy_refl (w : World) (r : Option Nat) : w.grownBy w r := ⟨rfl, rfl, rfl, Nat.le_refl _, fun _ _ _ => rfl⟩
/-- A whole list is appended to a row of the call's own, whether it is nil, empty or not. -/
theorem wp_ens {o : Oper} {a : Act} {w : World} {K : Act → World → Prop} {Q : Exit → Act → World → Prop} (s x : Operand)
    (ho : o.op = .call { callee := .builtin .append, args := #[s, x], argTypes := #[22, 22] })
    (B : Nat) (v : Value) (L M : List En) (hs : a.eval s = v) (hown : OwE w B v L) (ad : Option Addr) (n c : Nat) (hn : M.length = n) (hx : a.eval x = .slice ad n c) (hsl : SlE w ad c M) (hb : L.length + M.length ≤ 5000) (hB : B ≤ w.heap.size)
    (h : ∀ v' w', OwE w' B v' (L ++ M) → w.grownBy w' v.ownBlock → K (a.put o.dst v') w') : o.wp Try.prog a w K Q := by
  obtain ⟨i0, hi, hz0, hz1, hz2⟩ := info_parts Try.info24
  subst hn
  cases ad with
  | none =>
    have hc := hsl.2.1 rfl
    have hM : M = [] := List.eq_nil_of_length_eq_zero (by have := hsl.1; omega)
    subst hM
    subst hc
    have hrun := run_append_owned_none (P := Try.prog) (w := w) B 22 o.type 24 i0 3 Try.underlying22 hi v L.length (enCs L) hown
    unfold Oper.wp
    simp only [List.length_nil] at hx
    simp [execOp, ho, resolve, invoke, builtin, hs, hx, hrun, Result.andThen]
    exact h v w (by rw [List.append_nil]; exact hown) (grownBy_refl w _)
  | some ad =>
    refine wp_append_own w s x 22 ho B 24 i0 (.agg #[.int .i64 0, .int .i64 0, .string ⟨#[]⟩]) 3 32 Try.underlying22 hi hz0 hz1 hz2 rfl (by decide) v L.length (enCs L) hs hown ad M.length c (enCs M) hx (enCs_len M) hsl.2.2.cells enCs_one (by unfold maxLen; omega) (by omega) hB ?_
    intro v' w' h1 h2 _
    refine h v' w' ?_ h2
    unfold OwE
    rw [List.length_append, enCs_append]
    exact h1
theorem wpl_ens {ops : Array Oper} {rest : List Oper} {o : Oper} {a : Act} {w : World} {Q : Exit → Act → World → Prop} (hgd : o.guard = none) (s x : Operand)
    (ho : o.op = .call { callee := .builtin .append, args := #[s, x], argTypes := #[22, 22] })
    (B : Nat) (v : Value) (L M : List En) (hs : a.eval s = v) (hown : OwE w B v L) (ad : Option Addr) (n c : Nat) (hn : M.length = n) (hx : a.eval x = .slice ad n c) (hsl : SlE w ad c M) (hb : L.length + M.length ≤ 5000) (hB : B ≤ w.heap.size)
    (h : ∀ v' w', OwE w' B v' (L ++ M) → w.grownBy w' v.ownBlock → wpList Try.prog ops Q rest (a.put o.dst v') w') : wpList Try.prog ops Q (o :: rest) a w :=
  wpList_plain hgd fun _ hK => wp_ens s x ho B v L M hs hown ad n c hn hx hsl hb hB fun v' w' h1 h2 => hK _ _ (h v' w' h1 h2)
theorem step_ens {ops : Array Oper} {o : Oper} {a : Act} {w : World} {K : Act → World → Prop} {Q : Exit → Act → World → Prop} {E : Prop} (hgd : o.guard = none) (s x : Operand)
    (ho : o.op = .call { callee := .builtin .append, args := #[s, x], argTypes := #[22, 22] })
    (B : Nat) (v : Value) (L M : List En) (hs : a.eval s = v) (hown : OwE w B v L) (ad : Option Addr) (n c : Nat) (hn : M.length = n) (hx : a.eval x = .slice ad n c) (hsl : SlE w ad c M) (hb : L.length + M.length ≤ 5000) (hB : B ≤ w.heap.size)
    (h : ∀ v' w', OwE w' B v' (L ++ M) → w.grownBy w' v.ownBlock → K (a.put o.dst v') w') :
    if Region.wanted o (yielded ops a.tmps) = true then Oper.wp Try.prog o a w K Q else E := by
  have hw : Region.wanted o (yielded ops a.tmps) = true := by simp [Region.wanted, hgd]
  rw [if_pos hw]
  exact wp_ens s x ho B v L M hs hown ad n c hn hx hsl hb hB h
theorem OwE.below {a w w' : World} {B : Nat} {v : Value} {L : List En} (h : OwE w B v L) (hb : Below B a w) (hB : B ≤ w.heap.size) (g : w.grownBy w' v.ownBlock) : Below B a w' := hb.grown g hB (fun q e => (h.lt q e).1)
theorem OwE.low {w : World} {B B' : Nat} {v : Value} {L : List En} (h : OwE w B v L) (hB : B' ≤ B) : OwE w B' v L :=
  ⟨h.1, h.2.imp id (fun ⟨g, cap, cur, e, hb, r⟩ => ⟨g, cap, cur, e, Nat.le_trans hB hb, r⟩)⟩
/-- What is read below a row's base stays. -/
theorem OwE.lit (w : World) (B : Nat) (hB : B ≤ w.heap.size) : OwE (w.alloc (.cells #[] 24)) B (.slice (some ⟨w.heap.size, 0, none⟩) 0 0) [] := World.ownsRow_made w #[] 0 hB (Nat.zero_le _) rfl

set_option maxRecDepth 20000 in
set_option maxHeartbeats 1000000 in
theorem clone_ok (a : Option Addr) (c : Nat) (L : List En) (w : World) (h : SlE w a c L) (hl : L.length ≤ 2000) :
    Calls Try.prog 19 #[.slice a L.length c] w fun e w' => ∃ v, e = .returned v ∧ OwE w' w.heap.size v L ∧ Below w.heap.size w w' := by
  cases a with
  | none =>
    have hc := h.2.1 rfl
    have hM : L = [] := List.eq_nil_of_length_eq_zero (by have := h.1; omega)
    subst hM
    subst hc
    clear h hl
    simp only [List.length_nil]
    have q22 : ∀ (w : World) (a : Option Addr) (n c n' c' : Nat), (binOp .eql 22 (.slice a n c) (.slice none n' c')).run Try.prog w = .ok (.bool a.isNone) w := fun w a n c n' c' => Lib.run_eql_slice_nil w _ _ a n c n' c' Try.underlying22
    go_enter Try.func19, Try.ntmps19
    go_wp2
    go_ret
    exact ⟨_, rfl, World.ownsRow_nil _ _ _ _, Below.refl _ _⟩
  | some x =>
    have H : Hd (SlE (w.alloc (.cells #[] 24)) (some x) c L) := ⟨h.carry (alloc_below _ _)⟩
    have O : Hd (OwE (w.alloc (.cells #[] 24)) w.heap.size (.slice (some ⟨w.heap.size, 0, none⟩) 0 0) []) := ⟨OwE.lit w _ (Nat.le_refl _)⟩
    have BB : Hd (Below w.heap.size w (w.alloc (.cells #[] 24))) := ⟨alloc_below _ _⟩
    obtain ⟨n, hn⟩ : ∃ n, L.length = n := ⟨_, rfl⟩
    have HL : Hd (L.length = n) := ⟨hn⟩
    rw [hn] at hl ⊢
    clear h hn
    have q22 : ∀ (w : World) (a : Option Addr) (n c n' c' : Nat), (binOp .eql 22 (.slice a n c) (.slice none n' c')).run Try.prog w = .ok (.bool a.isNone) w := fun w a n c n' c' => Lib.run_eql_slice_nil w _ _ a n c n' c' Try.underlying22
    go_enter Try.func19, Try.ntmps19
    go_wp2_with (at_builtin; refine wpl_ens rfl _ _ rfl w.heap.size _ [] L rfl O.out (some x) n c HL.out rfl H.out (by have := HL.out; simp; omega) (by simp) ?_; intro v' w3 ho hg)
    go_ret
    exact ⟨_, rfl, ho, O.out.below BB.out (by simp) hg⟩

/-- A list of two lists. -/
def LL2 (w : World) (g : Nat) (x y : Value) : Prop := Blk w g 22 #[x, y]

set_option maxRecDepth 20000 in
set_option maxHeartbeats 1000000 in
theorem concat_ok (a b : Option Addr) (c d g : Nat) (L M : List En) (w : World) (h1 : SlE w a c L) (h2 : SlE w b d M) (hg : LL2 w g (.slice a L.length c) (.slice b M.length d)) (hl : L.length ≤ 2000) (hm : M.length ≤ 2000) :
    Calls Try.prog 18 #[.slice (some ⟨g, 0, none⟩) 2 2] w fun e w' => ∃ v, e = .returned v ∧ OwE w' w.heap.size v (L ++ M) ∧ Below w.heap.size w w' := by
  have e0 := hg.cellv (v := .slice a L.length c) 0 rfl
  have e1 := hg.cellv (v := .slice b M.length d) 1 rfl
  have HG : Hd (Blk w g 22 #[.slice a L.length c, .slice b M.length d] ∧ SlE w a c L ∧ SlE w b d M) := ⟨hg, h1, h2⟩
  obtain ⟨n, hn⟩ : ∃ n, L.length = n := ⟨_, rfl⟩
  obtain ⟨m, hm'⟩ : ∃ m, M.length = m := ⟨_, rfl⟩
  have HL : Hd (L.length = n ∧ M.length = m) := ⟨hn, hm'⟩
  rw [hn] at hl e0 HG
  rw [hm'] at hm e1 HG
  clear hn hm' hg h1 h2
  have G := grow_ok (n + m) (by omega) w
  go_enter Try.func18, Try.ntmps18
  go_wp2
  go_loopw [3, 11] (fun v i wr => wr = w ∧ ((v = .int .i64 0 ∧ i = .int .i64 0) ∨ (v = .int .i64 n ∧ i = .int .i64 1) ∨ (v = .int .i64 ((n : Int) + m) ∧ i = .int .i64 2))) (fun _ i _ => 2 - (intOf i).toNat)
  case atStart => exact ⟨rfl, .inl ⟨rfl, rfl⟩⟩
  case round =>
    obtain ⟨rfl, hr⟩ := hrel
    rcases hr with ⟨rfl, rfl⟩ | ⟨rfl, rfl⟩ | ⟨rfl, rfl⟩
    · go_wp2
      go_roundw
      case rel => exact ⟨by trivial, .inr (.inl ⟨rfl, rfl⟩)⟩
      case measure => simp [intOf]
    · go_wp2
      go_roundw
      case rel => exact ⟨by trivial, .inr (.inr ⟨rfl, rfl⟩)⟩
      case measure => simp [intOf]
    · clear e0 e1
      have G' : Calls Try.prog 22 #[.slice none 0 0, .int .i64 ((n : Int) + m)] wr fun e w' => ∃ v, e = .returned v ∧ OwE w' wr.heap.size v [] ∧ Below wr.heap.size wr w' := by
        rw [← Int.natCast_add]; exact G
      go_wp2_with (go_at_call 22; refine G'.mono ?_; rintro e w4 ⟨v4, rfl, o4, b4⟩)
      have R4 : Hd (OwE w4 wr.heap.size v4 [] ∧ Below wr.heap.size wr w4) := ⟨o4, b4⟩
      clear o4 b4
      obtain ⟨wo, ew⟩ : ∃ wo, wo = wr := ⟨_, rfl⟩
      subst ew
      go_loopw [6, 27] (fun v i wr => Below wo.heap.size wo wr ∧ ((OwE wr wo.heap.size v [] ∧ i = .int .i64 0) ∨ (OwE wr wo.heap.size v L ∧ i = .int .i64 1) ∨ (OwE wr wo.heap.size v (L ++ M) ∧ i = .int .i64 2))) (fun _ i _ => 2 - (intOf i).toNat)
      case atStart => exact ⟨R4.out.2, .inl ⟨R4.out.1, rfl⟩⟩
      case round =>
        obtain ⟨b5, hr⟩ := hrel
        have HB : Hd (Below wo.heap.size wo wr) := ⟨b5⟩
        have N : Blk wr g 22 #[.slice a n c, .slice b m d] := HG.out.1.kept (Kept.of_below b5 (fun _ => False)) id
        have e0 := N.cellv (v := .slice a n c) 0 rfl
        have e1 := N.cellv (v := .slice b m d) 1 rfl
        have S : Hd (SlE wr a c L ∧ SlE wr b d M) := ⟨HG.out.2.1.carry b5, HG.out.2.2.carry b5⟩
        have hsz := b5.size
        clear N b5
        rcases hr with ⟨o5, rfl⟩ | ⟨o5, rfl⟩ | ⟨o5, rfl⟩
        · have O5 : Hd _ := ⟨o5⟩
          clear o5
          go_wp2_with (at_builtin; refine wpl_ens rfl _ _ rfl wo.heap.size _ [] L rfl O5.out a n c HL.out.1 rfl S.out.1 (by have := HL.out.1; simp; omega) hsz ?_; intro v' w6 ho hgr)
          have R6 : Hd (_ ∧ _) := ⟨ho, O5.out.below HB.out hsz hgr⟩
          clear ho hgr e0 e1
          go_wp2
          go_roundw
          case rel => exact ⟨R6.out.2, .inr (.inl ⟨R6.out.1, rfl⟩)⟩
          case measure => simp [intOf]
        · have O5 : Hd _ := ⟨o5⟩
          clear o5
          go_wp2_with (at_builtin; refine wpl_ens rfl _ _ rfl wo.heap.size _ L M rfl O5.out b m d HL.out.2 rfl S.out.2 (by have := HL.out.1; have := HL.out.2; omega) hsz ?_; intro v' w6 ho hgr)
          have R6 : Hd (_ ∧ _) := ⟨ho, O5.out.below HB.out hsz hgr⟩
          clear ho hgr e0 e1
          go_wp2
          go_roundw
          case rel => exact ⟨R6.out.2, .inr (.inr ⟨R6.out.1, rfl⟩)⟩
          case measure => simp [intOf]
        · have O5 : Hd _ := ⟨o5⟩
          clear o5 e0 e1
          go_wp2
          go_ret
          exact ⟨_, rfl, O5.out, HB.out⟩
end Go.Proofs.Ytomkmgebbiahcaa
