/-
  Begin and Move, by the program. Conditions: the book lies in memory, and is short.
-/
import Derived.Test.YtomkmgebbiahcaaBf
namespace Go.Proofs.Ytomkmgebbiahcaa
open Go.RowKit

theorem OwE.read {w : World} {B : Nat} {v : Value} {L : List En} (h : OwE w B v L) : ∃ a c, v = .slice a L.length c ∧ SlE w a c L := en_owned h
theorem OwE.nil (w : World) (B : Nat) : OwE w B (.slice none 0 0) [] := World.ownsRow_nil _ _ _ _
theorem enCs_set : ∀ (L : List En) (k : Nat) (p : Int), k < L.length → (enCs L).set (k * 3 + 1) (.int .i64 p) = enCs (L.set k { ge L k with ph := p })
  | [], k, _, h => absurd h (Nat.not_lt_zero k)
  | t :: L, 0, p, _ => by
    rw [enCs_cons, List.set_cons_zero, enCs_cons, ge_cons_zero]
    simp [enC]
  | t :: L, k + 1, p, h => by
    rw [enCs_cons, List.set_cons_succ, enCs_cons, ge_cons_succ, ← enCs_set L k p (by simpa using h)]
    have e : (k + 1) * 3 + 1 = (k * 3 + 1) + 1 + 1 + 1 := by omega
    simp [enC, e]
theorem List.take_set_lt {α : Type} {l : List α} {n i : Nat} {x : α} : (l.set i x).take n = (l.take n).set i x := List.take_set ..
/-- An entry of a row of the call's own goes to another phase. -/
theorem OwE.put {w : World} {B : Nat} {v : Value} {L : List En} (h : OwE w B v L) {k : Nat} (hk : k < L.length) (p : Int) :
    ∃ q cap, v = .slice (some ⟨q, 0, none⟩) L.length cap ∧ B ≤ q ∧ q < w.heap.size ∧ w.cell? ⟨q, k * 3 + 1, none⟩ = some (.int .i64 (ge L k).ph) ∧ w.frozen? ⟨q, k * 3 + 1, none⟩ = false
      ∧ OwE (w.setCell ⟨q, k * 3 + 1, none⟩ (.int .i64 p)) B v (L.set k { ge L k with ph := p }) ∧ Kept (fun j => j = q) w (w.setCell ⟨q, k * 3 + 1, none⟩ (.int .i64 p)) := by
  rcases id h.2 with ⟨-, e⟩ | ⟨q, cap, cur, rfl, hb, hg, hc, hm, hs, ht⟩
  · omega
  · have hB : Blk w q 24 cur := hg
    have hcat : w.cell? ⟨q, k * 3 + 1, none⟩ = (enC (ge L k))[1]? := by
      rw [hB.cell, ← enCs_at L k hk 1 (by decide), ← ht, List.getElem?_take_of_lt (by omega), Array.getElem?_toList]
    refine ⟨q, cap, rfl, hb, hB.lt, hcat, hB.frozen _, ?_, (Kept.refl (fun j => j = q) w).setCell _ _ (.inl rfl)⟩
    unfold OwE
    rw [List.length_set]
    refine ⟨by rw [enCs_len, List.length_set], .inr ⟨q, cap, cur.setIfInBounds (k * 3 + 1) (.int .i64 p), rfl, hb, hB.set _ _, hc, hm, by simp [hs], ?_⟩⟩
    rw [Array.toList_setIfInBounds, List.take_set, ht]
    exact enCs_set L k p hk

/-- What Begin, Move answer: an owned row and a number. -/
def Ans (w w' : World) (e : Ending) (M : List En) (n : Int) : Prop := (∃ v, e = .returned (.tuple #[v, .int .i64 n]) ∧ OwE w' w.heap.size v M) ∧ Below w.heap.size w w'
theorem bg_arg {x : En} {L : List En} (h : ¬ okE x) : bgE x L = 1 ∧ bgL x L = [] := by
  have e : bgE x L = 1 := by unfold bgE; exact if_neg h
  exact ⟨e, by unfold bgL; rw [e]; rfl⟩
theorem bg_twice {x : En} {L : List En} (h : okE x) (hb : fB x.id L = true) : bgE x L = 5 ∧ bgL x L = [] := by
  have e : bgE x L = 5 := by unfold bgE; rw [if_pos (show 0 ≤ x.id ∧ x.id ≤ 999999999 ∧ 1 ≤ x.ph ∧ x.ph ≤ 3 from h), if_pos hb]
  exact ⟨e, by unfold bgL; rw [e]; rfl⟩
theorem bg_ok {x : En} {L : List En} (h : okE x) (hb : fB x.id L = false) : bgE x L = 0 ∧ bgL x L = L ++ [x] := by
  have e : bgE x L = 0 := by unfold bgE; rw [if_pos (show 0 ≤ x.id ∧ x.id ≤ 999999999 ∧ 1 ≤ x.ph ∧ x.ph ≤ 3 from h), hb]; rfl
  exact ⟨e, by unfold bgL; rw [e]; rfl⟩

set_option maxRecDepth 20000 in
set_option maxHeartbeats 1000000 in
theorem begin_ok (a : Option Addr) (c : Nat) (L : List En) (x : En) (w : World) (h : SlE w a c L) (hl : L.length ≤ 1900) :
    Calls Try.prog 7 #[.slice a L.length c, .agg #[.int .i64 x.id, .int .i64 x.ph, .string x.lv]] w fun e w' => Ans w w' e (bgL x L) (bgE x L) := by
  obtain ⟨w1, hw1⟩ : ∃ w1, w1 = w.alloc (.cells #[.int .i64 x.id, .int .i64 x.ph, .string x.lv] 24) := ⟨_, rfl⟩
  have B : Hd (Below w.heap.size w w1) := ⟨by rw [hw1]; exact alloc_below _ _⟩
  have N1 : Hd (Blk w1 w.heap.size 24 (enA x)) := ⟨by rw [hw1]; exact Blk.new _ _ _⟩
  have P := place_ok a c L x.id w1 (h.2.2.carry B.out) (by omega)
  have F : Hd (∀ p W, Calls Try.prog 16 #[.int .i64 p] W fun e w' => e = .returned (.bool (isP p)) ∧ w' = W) := ⟨phase_ok⟩
  have H : Hd (∀ W, Below w1.heap.size w1 W → SlE W a c L ∧ Blk W w.heap.size 24 (enA x) ∧ Below w.heap.size w W) := ⟨fun W b => ⟨(h.carry B.out).carry b, N1.out.kept (Kept.of_below b (fun _ => False)) id, B.out.trans (b.mono B.out.size)⟩⟩
  obtain ⟨⟨c0, c1, c2⟩, -⟩ := N1.out.three
  by_cases ho : okE x
  · obtain ⟨o1, o2, o3, o4⟩ := id ho
    have F1 := F.out x.ph
    rw [show isP x.ph = true from by unfold isP; simp [o3, o4]] at F1
    cases hb : fB x.id L with
    | true =>
      have E : Hd (_ ∧ _) := ⟨bg_twice ho hb⟩
      rw [show ixI x.id L = (fI x.id L : Int) from by unfold ixI; rw [if_pos hb]] at P
      clear h hb ho N1 o3 o4
      generalize L.length = n at *
      generalize fI x.id L = k at *
      obtain ⟨x0, x1, x2⟩ := x
      simp only at c0 c1 c2 o1 o2 P hw1 F1
      go_enter Try.func7, Try.ntmps7
      go_upto_region 1 with fail
      rw [← hw1]
      clear hw1
      go_wp2_with (first | (go_at_call 16; refine (F1 _).mono ?_; rintro e w2 ⟨rfl, rfl⟩) | (go_at_call 17; refine P.mono ?_; rintro e w2 ⟨rfl, b2⟩))
      go_ret2
      refine ⟨⟨_, by rw [E.out.1]; rfl, by rw [E.out.2]; exact OwE.nil _ _⟩, (H.out _ b2).2.2⟩
    | false =>
      have E : Hd (_ ∧ _) := ⟨bg_ok ho hb⟩
      rw [show ixI x.id L = -1 from by unfold ixI; rw [hb]; rfl] at P
      have HC : Hd (∀ W, SlE W a c L → ∀ e, Blk W e 24 (enA x) → ∀ g, Blk W g 22 #[.slice a L.length c, .slice (some ⟨e, 0, none⟩) 1 1] → Calls Try.prog 18 #[.slice (some ⟨g, 0, none⟩) 2 2] W fun e w' => ∃ v, e = .returned v ∧ OwE w' W.heap.size v (L ++ [x]) ∧ Below W.heap.size W w') := ⟨fun W hs e he g hg => concat_ok a (some ⟨e, 0, none⟩) c 1 g L [x] W hs ⟨Nat.le_refl _, (fun q => by cases q), fun _ => ⟨e, 0, rfl, he.lt, fun j u hj => by rw [enCs_single] at hj; rw [Nat.zero_add, he.cell]; simpa [enA, enC] using hj⟩⟩ hg (by omega) (by simp)⟩
      clear h hb ho N1 o3 o4
      generalize L.length = n at *
      generalize fI x.id L = k at *
      obtain ⟨x0, x1, x2⟩ := x
      simp only [enA] at c0 c1 c2 o1 o2 P hw1 F1 HC H
      go_enter Try.func7, Try.ntmps7
      go_upto_region 1 with fail
      rw [← hw1]
      clear hw1
      go_upto_region 5 with (first | (go_at_call 16; refine (F1 _).mono ?_; rintro e w2 ⟨rfl, rfl⟩) | (go_at_call 17; refine P.mono ?_; rintro e w2 ⟨rfl, b2⟩))
      obtain ⟨hR, hG, hB⟩ := H.out w2 b2
      have d0 := hG.cellv (v := .int .i64 x0) 0 rfl
      have d1 := hG.cellv (v := .int .i64 x1) 1 rfl
      have d2 := hG.cellv (v := .string x2) 2 rfl
      have BX := boxes w2 24 22 #[.int .i64 x0, .int .i64 x1, .string x2] #[.slice a n c, .slice (some ⟨w2.heap.size, 0, none⟩) 1 1]
      have CC := HC.out _ (hR.carry BX.1) w2.heap.size BX.2.1 (w2.heap.size + 1) BX.2.2
      have BB : Hd (_ ∧ Below w.heap.size w w2) := ⟨BX.1, hB⟩
      clear BX hR hG hB HC H b2 P
      generalize hw4 : (w2.alloc (.cells #[.int .i64 x0, .int .i64 x1, .string x2] 24)).alloc (.cells #[.slice a n c, .slice (some ⟨w2.heap.size, 0, none⟩) 1 1] 22) = w4 at *
      go_wp2_with fail
      refine CC.mono ?_; rintro e w5 ⟨v, rfl, o5, b5⟩
      go_wp2
      go_ret2
      have b4 : Below w.heap.size w w4 := BB.out.2.trans (BB.out.1.mono BB.out.2.size)
      refine ⟨⟨_, by rw [E.out.1]; rfl, by rw [E.out.2]; exact o5.low b4.size⟩, b4.trans (b5.mono b4.size)⟩
  · have E : Hd (_ ∧ _) := ⟨bg_arg (L := L) ho⟩
    have HO : Hd (¬ okE x) := ⟨ho⟩
    have K : x.id < 0 ∨ 999999999 < x.id ∨ (isP x.ph = false ∧ 0 ≤ x.id ∧ x.id ≤ 999999999) := by
      unfold okE at ho; unfold isP
      rcases Int.lt_or_le x.id 0 with q | q
      · exact .inl q
      · rcases Int.lt_or_le 999999999 x.id with q2 | q2
        · exact .inr (.inl q2)
        · refine .inr (.inr ⟨?_, q, q2⟩)
          rw [Bool.and_eq_false_iff, decide_eq_false_iff_not, decide_eq_false_iff_not]
          omega
    have F1 := F.out x.ph
    clear h ho N1 P
    generalize L.length = n at *
    generalize hI : isP x.ph = ip at *
    clear hI
    obtain ⟨x0, x1, x2⟩ := x
    simp only at c0 c1 c2 hw1 F1 K
    rcases K with K | K | ⟨rfl, K1, K2⟩
    · go_enter Try.func7, Try.ntmps7
      go_upto_region 1 with fail
      rw [← hw1]
      clear hw1
      go_wp2_with (go_at_call 16; refine (F1 _).mono ?_; rintro e w2 ⟨rfl, rfl⟩)
      go_ret2
      exact ⟨⟨_, by rw [E.out.1]; rfl, by rw [E.out.2]; exact OwE.nil _ _⟩, B.out⟩
    · go_enter Try.func7, Try.ntmps7
      go_upto_region 1 with fail
      rw [← hw1]
      clear hw1
      go_wp2_with (go_at_call 16; refine (F1 _).mono ?_; rintro e w2 ⟨rfl, rfl⟩)
      go_ret2
      exact ⟨⟨_, by rw [E.out.1]; rfl, by rw [E.out.2]; exact OwE.nil _ _⟩, B.out⟩
    · go_enter Try.func7, Try.ntmps7
      go_upto_region 1 with fail
      rw [← hw1]
      clear hw1
      go_wp2_with (go_at_call 16; refine (F1 _).mono ?_; rintro e w2 ⟨rfl, rfl⟩)
      go_ret2
      exact ⟨⟨_, by rw [E.out.1]; rfl, by rw [E.out.2]; exact OwE.nil _ _⟩, B.out⟩

theorem mv_none {d p : Int} {L : List En} (h : fB d L = false) : mvE d p L = 6 ∧ mvL d p L = [] := by
  have e : mvE d p L = 6 := by unfold mvE; rw [h]; rfl
  exact ⟨e, by unfold mvL; rw [e]; rfl⟩
theorem mv_state {d p : Int} {L : List En} (h : fB d L = true) (hp : p < 1 ∨ 3 < p ∨ p ≤ (ge L (fI d L)).ph) : mvE d p L = 9 ∧ mvL d p L = [] := by
  have e : mvE d p L = 9 := by unfold mvE fE; rw [if_pos h, if_pos hp]
  exact ⟨e, by unfold mvL; rw [e]; rfl⟩
theorem mv_ok {d p : Int} {L : List En} (h : fB d L = true) (hp : ¬ (p < 1 ∨ 3 < p ∨ p ≤ (ge L (fI d L)).ph)) : mvE d p L = 0 ∧ mvL d p L = L.set (fI d L) { ge L (fI d L) with ph := p } := by
  have e : mvE d p L = 0 := by unfold mvE fE; rw [if_pos h, if_neg hp]
  exact ⟨e, by unfold mvL; rw [e]; rfl⟩

set_option maxRecDepth 20000 in
set_option maxHeartbeats 1000000 in
theorem move_ok (a : Option Addr) (c : Nat) (L : List En) (d p : Int) (w : World) (h : SlE w a c L) (hl : L.length ≤ 1900) :
    Calls Try.prog 10 #[.slice a L.length c, .int .i64 d, .int .i64 p] w fun e w' => Ans w w' e (mvL d p L) (mvE d p L) := by
  have P := place_ok a c L d w h.2.2 (by omega)
  have F := phase_ok p
  cases hb : fB d L with
  | false =>
    have E : Hd (_ ∧ _) := ⟨mv_none (p := p) hb⟩
    rw [show ixI d L = -1 from by unfold ixI; rw [hb]; rfl] at P
    clear h hb
    generalize L.length = n at *
    go_enter Try.func10, Try.ntmps10
    go_wp2_with (first | (go_at_call 16; refine (F _).mono ?_; rintro e w2 ⟨rfl, rfl⟩) | (go_at_call 17; refine P.mono ?_; rintro e w2 ⟨rfl, b2⟩))
    go_ret2
    exact ⟨⟨_, by rw [E.out.1]; rfl, by rw [E.out.2]; exact OwE.nil _ _⟩, b2⟩
  | true =>
    have hlt := fB_yes hb
    rw [show ixI d L = (fI d L : Int) from by unfold ixI; rw [if_pos hb]] at P
    have H : Hd (∀ W, Below w.heap.size w W → SlE W a c L) := ⟨fun W b => h.carry b⟩
    have EM : Hd ((p < 1 ∨ 3 < p ∨ p ≤ (ge L (fI d L)).ph → mvE d p L = 9 ∧ mvL d p L = []) ∧ (¬ (p < 1 ∨ 3 < p ∨ p ≤ (ge L (fI d L)).ph) → mvE d p L = 0 ∧ mvL d p L = L.set (fI d L) { ge L (fI d L) with ph := p })) := ⟨mv_state hb, mv_ok hb⟩
    have CL : Hd (∀ W, SlE W a c L → Calls Try.prog 19 #[.slice a L.length c] W fun e w' => ∃ v, e = .returned v ∧ OwE w' W.heap.size v L ∧ Below W.heap.size W w') := ⟨fun W q => clone_ok a c L W q (by omega)⟩
    generalize fI d L = k at *
    obtain ⟨n, hn⟩ : ∃ n, n = L.length := ⟨_, rfl⟩
    have HL : Hd (n = L.length) := ⟨hn⟩
    rw [← hn] at hlt hl P CL ⊢
    clear hn h hb
    by_cases hp : p < 1 ∨ 3 < p
    · have E : Hd (_ ∧ _) := ⟨EM.out.1 (by omega)⟩
      rw [show isP p = false from by unfold isP; rw [Bool.and_eq_false_iff, decide_eq_false_iff_not, decide_eq_false_iff_not]; omega] at F
      clear hp EM
      go_enter Try.func10, Try.ntmps10
      go_wp2_with (first | (go_at_call 16; refine (F _).mono ?_; rintro e w2 ⟨rfl, rfl⟩) | (go_at_call 17; refine P.mono ?_; rintro e w2 ⟨rfl, b2⟩))
      go_ret2
      exact ⟨⟨_, by rw [E.out.1]; rfl, by rw [E.out.2]; exact OwE.nil _ _⟩, b2⟩
    · rw [show isP p = true from by unfold isP; rw [Bool.and_eq_true, decide_eq_true_iff, decide_eq_true_iff]; omega] at F
      by_cases hq : p ≤ (ge L k).ph
      · have E : Hd (_ ∧ _) := ⟨EM.out.1 (.inr (.inr hq))⟩
        clear hp EM
        go_enter Try.func10, Try.ntmps10
        go_upto_region 4 with (first | (go_at_call 16; refine (F _).mono ?_; rintro e w2 ⟨rfl, rfl⟩) | (go_at_call 17; refine P.mono ?_; rintro e w2 ⟨rfl, b2⟩))
        obtain ⟨b, off, rfl, -, d0, d1, d2⟩ := (H.out w2 b2).2.2.at (k := k) (by rw [← HL.out]; exact hlt)
        clear d0 d2
        generalize (ge L k).ph = z at *
        go_wp2_with (first | (go_at_call 16; refine (F _).mono ?_; rintro e w2 ⟨rfl, rfl⟩) | (go_at_call 17; refine P.mono ?_; rintro e w2 ⟨rfl, b2⟩))
        go_ret2
        exact ⟨⟨_, by rw [E.out.1]; rfl, by rw [E.out.2]; exact OwE.nil _ _⟩, b2⟩
      · have E : Hd (_ ∧ _) := ⟨EM.out.2 (by omega)⟩
        have OP : Hd (∀ W B v, OwE W B v L → _) := ⟨fun W B v (o : OwE W B v L) => o.put (k := k) (by rw [← HL.out]; exact hlt) p⟩
        rw [← HL.out] at OP
        clear hp EM
        go_enter Try.func10, Try.ntmps10
        go_upto_region 4 with (first | (go_at_call 16; refine (F _).mono ?_; rintro e w2 ⟨rfl, rfl⟩) | (go_at_call 17; refine P.mono ?_; rintro e w2 ⟨rfl, b2⟩))
        have hR := H.out w2 b2
        obtain ⟨b, off, ea, -, d0, d1, d2⟩ := hR.2.2.at (k := k) (by rw [← HL.out]; exact hlt)
        have CC := CL.out w2 hR
        have BB : Hd (Below w.heap.size w w2) := ⟨b2⟩
        clear d0 d2 hR H CL b2
        subst ea
        generalize hz : (ge L k).ph = z at *
        go_upto_region 7 with (first | (go_at_call 16; refine (F _).mono ?_; rintro e w2 ⟨rfl, rfl⟩) | (go_at_call 17; refine P.mono ?_; rintro e w2 ⟨rfl, b2⟩) | (go_at_call 19; refine CC.mono ?_; rintro e w3 ⟨v, rfl, o3, b3⟩))
        obtain ⟨q, cap, rfl, hq1, hq2, e1, f1, o4, k4⟩ := OP.out _ _ _ o3
        have R : Hd (_ ∧ Below w.heap.size w _) := ⟨o4.low BB.out.size, BB.out.trans ((b3.trans (k4.below b3.size (fun j e => by rw [e]; exact hq1))).mono BB.out.size)⟩
        clear o3 b3 o4 k4 OP
        go_wp2
        go_ret2
        exact ⟨⟨_, by rw [E.out.1]; rfl, by rw [E.out.2]; exact R.out.1⟩, R.out.2⟩
end Go.Proofs.Ytomkmgebbiahcaa
