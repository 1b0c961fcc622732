/-
  The walk of 'BoundsAll'. Conditions: the levels lie in memory.
-/
import Derived.Test.YtkohofiobpniiaaRb
import Derived.Laws.AppendOwnNone
namespace Go.Proofs.Ytkohofiobpniiaa
open Go.RowKit

/-- The first k levels, as cells. -/
def lvCs (l : Nat → Lv) : Nat → List Value
  | 0 => []
  | k + 1 => lvCs l k ++ lvC (l k)
theorem lvCs_len (l : Nat → Lv) : ∀ k, (lvCs l k).length = k * 10
  | 0 => rfl
  | k + 1 => by simp [lvCs, lvC, lvCs_len l k]; omega
theorem lvCs_at (l : Nat → Lv) : ∀ (n k j : Nat), k < n → j < 10 → (lvCs l n)[k * 10 + j]? = (lvC (l k))[j]?
  | 0, k, j, h, _ => by omega
  | n + 1, k, j, h, hj => by
    simp only [lvCs]
    by_cases c : k < n
    · rw [List.getElem?_append_left (by rw [lvCs_len]; omega)]
      exact lvCs_at l n k j c hj
    · obtain rfl : k = n := by omega
      rw [List.getElem?_append_right (by rw [lvCs_len]; omega), lvCs_len, show k * 10 + j - k * 10 = j by omega]
theorem lvC_one (l : Lv) : ∀ u ∈ lvC l, u.oneCell' = true := by
  intro u hu
  simp only [lvC, List.mem_cons, List.not_mem_nil, or_false] at hu
  rcases hu with rfl | rfl | rfl | rfl | rfl | rfl | rfl | rfl | rfl | rfl <;> rfl
theorem lvCs_one (l : Nat → Lv) : ∀ n, ∀ u ∈ lvCs l n, u.oneCell' = true
  | 0, u, hu => by simp [lvCs] at hu
  | n + 1, u, hu => by
    simp only [lvCs, List.mem_append] at hu
    rcases hu with hu | hu
    · exact lvCs_one l n u hu
    · exact lvC_one _ u hu
theorem lv_news {w : World} {x : Addr} {n : Nat} {l : Nat → Lv} (h : LvR w (some x) n l) : ∀ j u, (lvCs l n)[j]? = some u → w.cell? (x.add j) = some u := fun j u hu => by
  have hj : j < n * 10 := by
    have := (List.getElem?_eq_some_iff.1 hu).1
    rwa [lvCs_len] at this
  obtain ⟨b, off, e, hb, hcs⟩ := h (by omega)
  injection e with e
  subst e
  rw [Go.WideShapes.add_plain]
  have h1 : j / 10 < n := by omega
  have e1 := lvCs_at l n (j / 10) (j % 10) h1 (by omega)
  have e2 := hcs (j / 10) h1 (j % 10) (by omega)
  rw [show j / 10 * 10 + j % 10 = j by omega] at e1
  rw [show off + j / 10 * 10 + j % 10 = off + j by omega] at e2
  rw [e2, ← e1, hu]
/-- How a row of the call's own is read. -/
theorem lv_owned {w : World} {base : Nat} {v : Value} {n : Nat} {l : Nat → Lv} (h : w.ownsRow base 31 10 v n (lvCs l n)) : ∃ a cap, v = .slice a n cap ∧ LvR w a n l := by
  rcases id h.2 with ⟨rfl, rfl⟩ | ⟨g, cap, cur, rfl, hb, hg, r⟩
  · exact ⟨none, 0, rfl, fun h => by omega⟩
  · refine ⟨some ⟨g, 0, none⟩, cap, rfl, fun hn => ⟨g, 0, rfl, (h.lt g rfl).2, fun k hk j hj => ?_⟩⟩
    rw [show 0 + k * 10 + j = k * 10 + j by omega, h.cellAt _ (by omega)]
    exact lvCs_at l n k j hk hj
theorem Try.info31 : (Try.prog.info? 31).map (fun i => (i.zero, i.size, i.bytes)) = some (some (.agg #[.string ByteArray.empty, .int .i64 0, .int .i64 0, .int .i64 0, .int .i64 0, .int .i64 0, .int .i64 0, .int .i64 0, .int .i64 0, .int .i64 0]), 10, 88) := by kernel_rfl
/-- append at the operation: levels behind nothing. -/
theorem wp_lvs {ops : Array Oper} {rest : List Oper} {o : Oper} {a : Act} {Q : Exit → Act → World → Prop} {w : World} (hgd : o.guard = none) (sl x : Operand)
    (ho : o.op = .call { callee := .builtin .append, args := #[sl, x], argTypes := #[22, 22] }) {B g : Nat} (hs : a.eval sl = .slice (some ⟨g, 0, none⟩) 0 0) (hown : w.ownsRow B 31 10 (.slice (some ⟨g, 0, none⟩) 0 0) 0 [])
    {aB : Option Addr} {n c : Nat} {l : Nat → Lv} (hx : a.eval x = .slice aB n c) (hN : aB = none → n = 0 ∧ c = 0) (hr : LvR w aB n l) (hn : n ≤ 64) (hB : B ≤ w.heap.size)
    (k : ∀ v' w', w'.ownsRow B 31 10 v' n (lvCs l n) → Below B w w' → wpList Try.prog ops Q rest (a.put o.dst v') w') : wpList Try.prog ops Q (o :: rest) a w := by
  obtain ⟨i0, hi, hz0, hz1, hz2⟩ := info_parts Try.info31
  cases aB with
  | none =>
    obtain ⟨n0, c0⟩ := hN rfl
    subst n0 c0
    refine wpList_append_own_none hgd sl x 22 ho B 31 i0 10 Try.underlying22 hi _ _ _ hs hown hx ?_
    exact k _ _ hown (Below.refl _ _)
  | some ad =>
    refine wpList_append_own w hgd sl x 22 ho B 31 i0 _ 10 88 Try.underlying22 hi hz0 hz1 hz2 rfl (by decide) _ _ _ hs hown ad n c (lvCs l n) hx (by rw [lvCs_len]) (lv_news hr) (lvCs_one l n) (by unfold maxLen; omega) (by omega) hB (fun v' w' ho' hgr _ => k v' w' ?_ ?_)
    · rw [Nat.zero_add, List.nil_append] at ho'
      exact ho'
    · exact (Below.refl _ _).grown hgr hB (fun q e => (hown.lt q e).1)
/-- What is refused is refused by both. -/
theorem BRes.both {w1 w1' : World} {total : Int} {n : Nat} {l : Nat → Lv} {e1 : Ending} (h1 : BRes w1 total n l e1 w1') :
    (∃ a c, e1 = .returned (.tuple #[.slice a n c, .int .i64 0]) ∧ BdR w1' a n (bds total n l) ∧ ∀ (W W' : World) e, BRes W total n l e W' → ∃ a c, e = .returned (.tuple #[.slice a n c, .int .i64 0]) ∧ BdR W' a n (bds total n l)) ∨
    (∃ z : Int, e1 = .returned (.tuple #[.slice none 0 0, .int .i64 z]) ∧ ∀ (W W' : World) e, BRes W total n l e W' → e = .returned (.tuple #[.slice none 0 0, .int .i64 z])) := by
  rcases h1.ex with ⟨hf, hi, a, c, e, hb⟩ | ⟨hf, hi, e⟩ | ⟨hz, e⟩
  · exact .inl ⟨a, c, e, hb, fun W W' e h => h.yes hf hi⟩
  · refine .inr ⟨8, e, fun W W' e' h => ?_⟩
    rcases h.ex with ⟨-, hi', -⟩ | ⟨-, -, h⟩ | ⟨hz, -⟩
    · obtain ⟨k, hk, hn⟩ := hi
      exact absurd (hi' k hk) hn
    · exact h
    · rw [hf.none] at hz; simp at hz
  · refine .inr ⟨_, e, fun W W' e' h => ?_⟩
    rcases h.ex with ⟨hf, -⟩ | ⟨hf, -⟩ | ⟨-, h⟩
    · rw [hf.none] at hz; simp at hz
    · rw [hf.none] at hz; simp at hz
    · exact h
theorem rbounds_ok (total : Int) (a : Option Addr) (n cap : Nat) (l : Nat → Lv) (w : World) (hr : LvR w a n l) (hn : n ≤ 64) :
    Calls Try.prog 9 #[.int .i64 total, .slice a n cap] w fun e w' => BRes w total n l e w' := by
  by_cases z : refI total n (shr l) = 0
  · exact rbounds_yes total a n cap l w hr hn (Fits.of z)
  · exact rbounds_no total a n cap l w hr hn (by simpa using z)

theorem all_far (total : Int) (a : Option Addr) (n cap : Nat) (w : World) (h : (64 : Int) < (n : Int)) :
    Calls Try.prog 3 #[.int .i64 total, .slice a n cap] w fun e w' => e = .returned (.bool true) ∧ Below w.heap.size w w' := by
  go_enter Try.func3, Try.ntmps3
  go_wp2_with (go_at_call 7; refine (awake_ok _).mono ?_; rintro e w1 ⟨rfl, hb1⟩)
  go_ret; exact ⟨rfl, hb1⟩

set_option maxRecDepth 20000 in
set_option maxHeartbeats 4000000 in
theorem all_near (total : Int) (a : Option Addr) (n cap : Nat) (l : Nat → Lv) (w : World) (hr : LvR w a n l) (hc : a = none → n = 0 ∧ cap = 0) (hn : n ≤ 64) :
    Calls Try.prog 3 #[.int .i64 total, .slice a n cap] w fun e w' => e = .returned (.bool true) ∧ Below w.heap.size w w' := by
  have I := awake_ok w
  have HV : Hd (LvR w a n l) := ⟨hr⟩
  have HN : Hd (a = none → n = 0 ∧ cap = 0) := ⟨hc⟩
  clear hr hc
  go_enter Try.func3, Try.ntmps3
  go_wp2_with fail
  go_at_call 7
  refine I.mono ?_
  rintro e w1 ⟨rfl, b1⟩
  clear I
  have hown : (w1.alloc (.cells #[] 31)).ownsRow w1.heap.size 31 10 (.slice (some ⟨w1.heap.size, 0, none⟩) 0 0) 0 [] := World.ownsRow_lit (e := 31) w1 #[] 0 (Nat.le_refl _) (by unfold maxLen; omega) rfl
  have BA : Below w.heap.size w (w1.alloc (.cells #[] 31)) := b1.trans ((alloc_below w1 _).mono b1.size)
  have AL : Hd (Below w1.heap.size w1 (w1.alloc (.cells #[] 31))) := ⟨alloc_below w1 _⟩
  have hrA := HV.out.carry BA
  have B1 : Hd (Below w.heap.size w w1) := ⟨b1⟩
  clear BA b1
  go_wp2_with (at_builtin; go_loud (refine wp_lvs rfl (.tmp 16) (.tmp 17) rfl rfl hown rfl HN.out hrA hn (by simp) ?_; intro v2 w2 o2 b2))
  have B12 : Below w1.heap.size w1 w2 := AL.out.trans b2
  have B2 : Hd (Below w.heap.size w w2) := ⟨B1.out.trans (B12.mono B1.out.size)⟩
  obtain ⟨ma, mc, rfl, hm⟩ := lv_owned o2
  clear o2 b2 B12 hown hrA AL B1
  have HM : Hd (LvR w2 ma n l) := ⟨hm⟩
  have J := bounds_ok total ma n mc l w2 hm (by omega)
  clear hm
  go_wp2_with fail
  go_at_call 8
  refine J.mono ?_
  rintro e w3 h3
  clear J
  have B23 : Hd (Below w2.heap.size w2 w3) := ⟨h3.bel⟩
  have B3 : Hd (Below w.heap.size w w3) := ⟨B2.out.trans (h3.bel.mono B2.out.size)⟩
  have J := rbounds_ok total a n cap l w3 (HV.out.carry B3.out) hn
  rcases h3.both with ⟨pa, pc, rfl, hP, hE⟩ | ⟨z, rfl, hE⟩
  · have HP : Hd (BdR w3 pa n (bds total n l)) := ⟨hP⟩
    have HE : Hd (∀ (W W' : World) e, BRes W total n l e W' → ∃ a c, e = .returned (.tuple #[.slice a n c, .int .i64 0]) ∧ BdR W' a n (bds total n l)) := ⟨hE⟩
    clear hP hE h3
    go_wp2_with fail
    go_at_call 9
    refine J.mono ?_
    rintro e w4 h4
    obtain ⟨ra, rc, rfl, hR⟩ := HE.out _ _ _ h4
    have HQ : Hd (BdR w4 ra n (bds total n l) ∧ BdR w4 pa n (bds total n l)) := ⟨hR, HP.out.carry h4.bel⟩
    have B4 : Hd (Below w.heap.size w w4) := ⟨B3.out.trans (h4.bel.mono B3.out.size)⟩
    have HW : Hd (LvR w4 a n l ∧ LvR w4 ma n l) := ⟨HV.out.carry B4.out, (HM.out.carry B23.out).carry h4.bel⟩
    clear HE h4 J HP hR B3 B23 B2 HM HV
    go_wp2_with fail
    go_loopw [10] (fun i wr => ∃ k : Nat, k ≤ n ∧ i = .int .i64 k ∧ Below w4.heap.size w4 wr) (fun i _ => n - (intOf i).toNat)
    case atStart => exact ⟨0, Nat.zero_le _, rfl, Below.refl _ _⟩
    case round =>
      obtain ⟨k, hk, rfl, p3⟩ := hrel
      have P : Hd (Below w4.heap.size w4 wr) := ⟨p3⟩
      clear p3
      by_cases hlt : k < n
      · obtain ⟨sb, off, rfl, -, c0, c1, c2, c3, c4, c5, c6, c7, c8, c9⟩ := (HW.out.1.carry P.out).at hlt
        obtain ⟨mb, mf, rfl, -, d0, d1, d2, d3, d4, d5, d6, d7, d8, d9⟩ := (HW.out.2.carry P.out).at hlt
        generalize l k = y at *
        obtain ⟨x0, x1, x2, x3, x4, x5, x6, x7, x8, x9⟩ := y
        simp only at c0 c1 c2 c3 c4 c5 c6 c7 c8 c9 d0 d1 d2 d3 d4 d5 d6 d7 d8 d9
        go_wp2_with fail
        go_quiet (fail)
        go_wp2_with fail
        go_roundw
        case rel => exact ⟨k + 1, by omega, by go_num, ⟨P.out.os, P.out.tape, P.out.output, P.out.size, P.out.block⟩⟩
        case measure => simp [intOf]; omega
      · obtain rfl : n = k := by omega
        have S := sameB_ok pa ra n pc rc (bds total n l) wr (HQ.out.2.carry P.out) (HQ.out.1.carry P.out) hn
        go_wp2_with (go_at_call 10; refine S.mono ?_; rintro e w5 ⟨rfl, b5⟩)
        go_ret
        exact ⟨rfl, (B4.out.trans (P.out.mono B4.out.size)).trans (b5.mono (Nat.le_trans B4.out.size P.out.size))⟩
  · have HE : Hd (∀ (W W' : World) e, BRes W total n l e W' → e = .returned (.tuple #[.slice none 0 0, .int .i64 z])) := ⟨hE⟩
    clear hE h3
    go_wp2_with fail
    go_at_call 9
    refine J.mono ?_
    rintro e w4 h4
    obtain rfl := HE.out _ _ _ h4
    have B4 : Hd (Below w.heap.size w w4) := ⟨B3.out.trans (h4.bel.mono B3.out.size)⟩
    have HW : Hd (LvR w4 a n l ∧ LvR w4 ma n l) := ⟨HV.out.carry B4.out, (HM.out.carry B23.out).carry h4.bel⟩
    clear HE h4 J B3 B23 B2 HM HV
    go_wp2_with fail
    go_loopw [10] (fun i wr => ∃ k : Nat, k ≤ n ∧ i = .int .i64 k ∧ Below w4.heap.size w4 wr) (fun i _ => n - (intOf i).toNat)
    case atStart => exact ⟨0, Nat.zero_le _, rfl, Below.refl _ _⟩
    case round =>
      obtain ⟨k, hk, rfl, p3⟩ := hrel
      have P : Hd (Below w4.heap.size w4 wr) := ⟨p3⟩
      clear p3
      by_cases hlt : k < n
      · obtain ⟨sb, off, rfl, -, c0, c1, c2, c3, c4, c5, c6, c7, c8, c9⟩ := (HW.out.1.carry P.out).at hlt
        obtain ⟨mb, mf, rfl, -, d0, d1, d2, d3, d4, d5, d6, d7, d8, d9⟩ := (HW.out.2.carry P.out).at hlt
        generalize l k = y at *
        obtain ⟨x0, x1, x2, x3, x4, x5, x6, x7, x8, x9⟩ := y
        simp only at c0 c1 c2 c3 c4 c5 c6 c7 c8 c9 d0 d1 d2 d3 d4 d5 d6 d7 d8 d9
        go_wp2_with fail
        go_quiet (fail)
        go_wp2_with fail
        go_roundw
        case rel => exact ⟨k + 1, by omega, by go_num, ⟨P.out.os, P.out.tape, P.out.output, P.out.size, P.out.block⟩⟩
        case measure => simp [intOf]; omega
      · obtain rfl : n = k := by omega
        have S := sameB_ok none none 0 0 0 (bds total n l) wr (fun h => absurd h (Nat.lt_irrefl 0)) (fun h => absurd h (Nat.lt_irrefl 0)) (by omega)
        go_wp2_with (go_at_call 10; refine S.mono ?_; rintro e w5 ⟨rfl, b5⟩)
        go_ret
        exact ⟨rfl, (B4.out.trans (P.out.mono B4.out.size)).trans (b5.mono (Nat.le_trans B4.out.size P.out.size))⟩

theorem all_law (total : Int) (a : Option Addr) (n cap : Nat) (l : Nat → Lv) (w : World) (hr : LvR w a n l) (hc : a = none → n = 0 ∧ cap = 0) :
    Calls Try.prog 3 #[.int .i64 total, .slice a n cap] w fun e w' => e = .returned (.bool true) ∧ Below w.heap.size w w' := by
  by_cases h : n ≤ 64
  · exact all_near total a n cap l w hr hc h
  · exact all_far total a n cap w (by omega)
end Go.Proofs.Ytkohofiobpniiaa
