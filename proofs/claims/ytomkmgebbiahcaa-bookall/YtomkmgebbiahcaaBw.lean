/-
  Move, by the reference. Conditions: the book lies in memory, and is short.
-/
import Derived.Test.YtomkmgebbiahcaaBs
namespace Go.Proofs.Ytomkmgebbiahcaa
open Go.RowKit

theorem one_listE {w : World} {g : Nat} {t : En} (h : Blk w g 24 (enA t)) : SlE w (some ⟨g, 0, none⟩) 1 [t] :=
  ⟨Nat.le_refl _, (fun e => by cases e), fun _ => ⟨g, 0, rfl, h.lt, fun j u hj => by
    rw [enCs_single] at hj
    rw [Nat.zero_add, h.cell]
    simpa [enA, enC] using hj⟩⟩
theorem take_nextE {M : List En} {k : Nat} (h : k < M.length) : M.take (k + 1) = M.take k ++ [ge M k] := by
  rw [List.take_add_one, ge_get h]; rfl
/-- A box whose second cell turns. -/
theorem ph_set {w : World} {g : Nat} {z : En} (h : Blk w g 24 (enA z)) (p : Int) :
    Blk (w.setCell ⟨g, 1, none⟩ (.int .i64 p)) g 24 (enA { z with ph := p }) ∧ Kept (fun k => k = g) w (w.setCell ⟨g, 1, none⟩ (.int .i64 p)) := by
  refine ⟨?_, (Kept.refl (fun k => k = g) w).setCell _ _ (.inl rfl)⟩
  have := h.set 1 (.int .i64 p)
  simpa [enA] using this
theorem OwE.turn {w w' : World} {B g : Nat} {v : Value} {L : List En} (h : OwE w B v L) (hg : ∀ q, v.ownBlock = some q → q ≠ g) (k : Kept (fun j => j = g) w w') : OwE w' B v L := by
  refine ⟨h.1, h.2.imp id ?_⟩
  rintro ⟨q, cap, cur, rfl, hb, hq, r⟩
  refine ⟨q, cap, cur, rfl, hb, ?_, r⟩
  have hlt : q < w.heap.size := by
    rcases Nat.lt_or_ge q w.heap.size with h1 | h1
    · exact h1
    · rw [Array.getElem?_eq_none h1] at hq; cases hq
  rw [k.block q hlt (hg q rfl)]
  exact hq

set_option maxRecDepth 20000 in
set_option maxHeartbeats 2000000 in
theorem rmove_ok (a : Option Addr) (c : Nat) (L : List En) (d p : Int) (w : World) (h : EnR w a L) (hl : L.length ≤ 1900) :
    Calls Try.prog 11 #[.slice a L.length c, .int .i64 d, .int .i64 p] w fun e w' => Ans w w' e (mvL d p L) (mvE d p L) := by
  have F := rfind_ok a c L d w h (by omega)
  unfold fdV enV at F
  cases hb : fB d L with
  | false =>
    have E : Hd (_ ∧ _) := ⟨mv_none (p := p) hb⟩
    rw [hb] at F
    generalize fE d L = z at *
    obtain ⟨z0, z1, z2⟩ := z
    simp only at F
    clear h hb
    generalize L.length = n at *
    go_enter Try.func11, Try.ntmps11
    go_wp2_with fail
    go_at_call 13
    refine F.mono ?_
    rintro e w3 ⟨rfl, b3⟩
    obtain ⟨w1, hw1⟩ : ∃ w1, w1 = w3.alloc (.cells #[.int .i64 z0, .int .i64 z1, .string z2] 24) := ⟨_, rfl⟩
    have B : Hd (Below w.heap.size w w1) := ⟨by rw [hw1]; exact b3.alloc b3.size _⟩
    go_upto_region 2 with fail
    rw [← hw1]
    clear hw1
    go_wp2
    go_ret2
    exact ⟨⟨_, by rw [E.out.1]; rfl, by rw [E.out.2]; exact OwE.nil _ _⟩, B.out⟩
  | true =>
    rw [hb] at F
    have hlt0 := fB_yes hb
    have EM : Hd ((p < 1 ∨ 3 < p ∨ p ≤ (fE d L).ph → mvE d p L = 9 ∧ mvL d p L = []) ∧ (¬ (p < 1 ∨ 3 < p ∨ p ≤ (fE d L).ph) → mvE d p L = 0 ∧ mvL d p L = L.set (fI d L) { ge L (fI d L) with ph := p })) := ⟨mv_state hb, mv_ok hb⟩
    have HR : Hd (∀ W, Below w.heap.size w W → EnR W a L) := ⟨fun W b => h.carry b⟩
    obtain ⟨M, hM⟩ : ∃ M, M = L.set (fI d L) { ge L (fI d L) with ph := p } := ⟨_, rfl⟩
    have HM : Hd (M.length = L.length ∧ (∀ k, k < L.length → (fI d L = k → ge M k = { ge L k with ph := p } ∧ (ge L k).id = d) ∧ (fI d L ≠ k → ge M k = ge L k) ∧ (k < fI d L → (ge L k).id ≠ d))) := ⟨by rw [hM, List.length_set], fun k hk => ⟨fun e => by
        subst e; exact ⟨by rw [hM, ge_set, if_pos ⟨rfl, hk⟩], fI_at hk⟩, fun e => by rw [hM, ge_set, if_neg (by omega)], fun q => fI_no q⟩⟩
    rw [← hM] at EM
    clear hM h hb
    generalize fI d L = f at *
    generalize fE d L = z at *
    obtain ⟨z0, z1, z2⟩ := z
    simp only at F EM
    obtain ⟨n, hn⟩ : ∃ n, n = L.length := ⟨_, rfl⟩
    have HL : Hd (n = L.length) := ⟨hn⟩
    rw [← hn] at F hl HM hlt0 ⊢
    clear hn
    have hM1 := HM.out.1
    have TL : Hd (∀ k, (M.take k).length ≤ n) := ⟨fun k => by rw [List.length_take]; omega⟩
    by_cases hp : p < 1 ∨ 3 < p ∨ p ≤ z1
    · have E : Hd (_ ∧ _) := ⟨EM.out.1 hp⟩
      clear EM hM1
      have hp' : p < 1 ∨ ((¬ p < 1 ∧ 3 < p) ∨ (¬ p < 1 ∧ ¬ 3 < p ∧ p ≤ z1)) := by omega
      clear hp
      rcases hp' with h1 | ⟨h1, h2⟩ | ⟨h1, h2, h3⟩
      all_goals
        go_enter Try.func11, Try.ntmps11
        go_wp2_with fail
        go_at_call 13
        refine F.mono ?_
        rintro e w3 ⟨rfl, b3⟩
        obtain ⟨w1, hw1⟩ : ∃ w1, w1 = w3.alloc (.cells #[.int .i64 z0, .int .i64 z1, .string z2] 24) := ⟨_, rfl⟩
        have N1 : Blk w1 w3.heap.size 24 (enA ⟨z0, z1, z2⟩) := by rw [hw1]; exact Blk.new _ _ _
        have B : Hd (Below w.heap.size w w1) := ⟨by rw [hw1]; exact b3.alloc b3.size _⟩
        obtain ⟨⟨q0, q1, q2⟩, -⟩ := N1.three
        clear N1 q0 q2
        go_upto_region 2 with fail
        rw [← hw1]
        clear hw1
        go_wp2
        go_ret2
        exact ⟨⟨_, by rw [E.out.1]; rfl, by rw [E.out.2]; exact OwE.nil _ _⟩, B.out⟩
    · have E : Hd (_ ∧ _) := ⟨EM.out.2 hp⟩
      have hp1 : ¬ p < 1 := by omega
      have hp2 : ¬ 3 < p := by omega
      have hp3 : ¬ p ≤ z1 := by omega
      clear EM hp
      go_enter Try.func11, Try.ntmps11
      go_wp2_with fail
      go_at_call 13
      refine F.mono ?_
      rintro e w3 ⟨rfl, b3⟩
      obtain ⟨w1, hw1⟩ : ∃ w1, w1 = w3.alloc (.cells #[.int .i64 z0, .int .i64 z1, .string z2] 24) := ⟨_, rfl⟩
      have N1 : Blk w1 w3.heap.size 24 (enA ⟨z0, z1, z2⟩) := by rw [hw1]; exact Blk.new _ _ _
      have B : Hd (Below w.heap.size w w1) := ⟨by rw [hw1]; exact b3.alloc b3.size _⟩
      obtain ⟨⟨q0, q1, q2⟩, -⟩ := N1.three
      have HR1 : Hd (EnR w1 a L) := ⟨HR.out w1 B.out⟩
      clear N1 q0 q2 HR b3 F
      go_upto_region 2 with fail
      rw [← hw1]
      clear hw1
      go_wp2
      clear q1 hp1 hp2 hp3
      go_loopw [10, 11, 12] (fun v o i wr => Below w1.heap.size w1 wr ∧ ∃ k : Nat, k ≤ n ∧ OwE wr w1.heap.size v (M.take k) ∧ i = .int .i64 k ∧ o = .bool (decide (f < k))) (fun _ _ i _ => n - (intOf i).toNat)
      case atStart => exact ⟨Below.refl _ _, 0, Nat.zero_le _, OwE.nil _ _, rfl, rfl⟩
      case round =>
        obtain ⟨p3, k, hk, hv, rfl, rfl⟩ := hrel
        by_cases hlt : k < n
        · obtain ⟨b, off, rfl, hb1, d0, d1, d2⟩ := (HR1.out.carry p3).at (k := k) (by rw [← HL.out]; exact hlt)
          obtain ⟨m1, m2, m3⟩ := HM.out.2 k hlt
          have E0 : M.take (k + 1) = M.take k ++ [ge M k] := take_nextE (by omega)
          have KK : Hd (_ ∧ _ ∧ _ ∧ _) := ⟨m1, m2, m3, E0⟩
          clear m1 m2 m3 E0
          have bq : Hd (Below w1.heap.size w1 (wr.alloc (.cells (enA (ge L k)) 24))) := ⟨p3.alloc p3.size _⟩
          have oq : Hd (OwE (wr.alloc (.cells (enA (ge L k)) 24)) w1.heap.size _ (M.take k)) := ⟨World.ownsRow.alloc hv _⟩
          have nq : Hd (Blk (wr.alloc (.cells (enA (ge L k)) 24)) wr.heap.size 24 (enA (ge L k))) := ⟨Blk.new _ _ _⟩
          have hoff : Hd (∀ q, Value.ownBlock _ = some q → q ≠ wr.heap.size) := ⟨fun q e => by have := (hv.lt q e).2; omega⟩
          have hsz := p3.size
          obtain ⟨w4, hw4⟩ : ∃ w4, w4 = wr.alloc (.cells (enA (ge L k)) 24) := ⟨_, rfl⟩
          rw [← hw4] at bq oq nq
          unfold enA at hw4
          clear p3 hv
          generalize ge L k = z at *
          obtain ⟨y0, y1, y2⟩ := z
          simp only at d0 d1 d2 hw4 KK
          go_upto_region 12 with fail
          rw [← hw4]
          clear hw4 d0 d1 d2 hb1
          obtain ⟨⟨d0, d1, d2⟩, f0, f1, f2⟩ := Blk.three (t := ⟨y0, y1, y2⟩) nq.out
          simp only at d0 d1 d2
          by_cases hf : f = k
          · subst hf
            obtain ⟨g1, g2⟩ := KK.out.1 rfl
            subst g2
            have E1 : Hd (M.take (f + 1) = M.take f ++ [(⟨y0, p, y2⟩ : En)]) := ⟨by rw [KK.out.2.2.2, g1]⟩
            have hd0 : decide (f < f) = false := decide_eq_false (Nat.lt_irrefl _)
            have hd1 : decide (f < f + 1) = true := decide_eq_true (Nat.lt_succ_self _)
            rw [hd0]
            obtain ⟨t1, t2⟩ := ph_set nq.out p
            have T : Hd (Blk _ _ 24 (enA ⟨y0, p, y2⟩) ∧ OwE _ w1.heap.size _ (M.take f) ∧ Below w1.heap.size w1 _) := ⟨t1, oq.out.turn hoff.out t2, bq.out.trans (t2.below bq.out.size (fun j e => by rw [e]; exact hsz))⟩
            clear g1 KK hd0 nq t1 t2 oq bq
            go_upto_region 15 with fail
            generalize w4.setCell _ _ = w5 at *
            clear d0 d1 d2
            obtain ⟨⟨r0, r1, r2⟩, -⟩ := T.out.1.three
            simp only at r0 r1 r2
            have hs5 := T.out.2.2.size
            have OA : Hd (OwE (w5.alloc (.cells #[.int .i64 y0, .int .i64 p, .string y2] 24)) w1.heap.size _ (M.take f)) := ⟨World.ownsRow.alloc T.out.2.1 _⟩
            have SA : Hd (SlE (w5.alloc (.cells #[.int .i64 y0, .int .i64 p, .string y2] 24)) (some ⟨w5.heap.size, 0, none⟩) 1 [(⟨y0, p, y2⟩ : En)]) := ⟨one_listE (Blk.new w5 24 #[.int .i64 y0, .int .i64 p, .string y2])⟩
            go_wp2_with (at_builtin; refine wpl_ens rfl _ _ rfl w1.heap.size _ (M.take f) [(⟨y0, p, y2⟩ : En)] rfl OA.out (some ⟨w5.heap.size, 0, none⟩) 1 1 rfl rfl SA.out (by have := TL.out f; simp only [List.length_singleton]; omega) (by have := hs5; first | (simp; omega) | simp) ?_; intro v9 w9 o9 g9)
            have R : Hd (OwE w9 w1.heap.size v9 (M.take (f + 1)) ∧ Below w1.heap.size w1 w9) := ⟨by rw [E1.out]; exact o9, OA.out.below (T.out.2.2.alloc hs5 _) (by simp; omega) g9⟩
            clear o9 g9 r0 r1 r2
            go_wp2
            go_roundw
            case rel => exact ⟨R.out.2, f + 1, by omega, R.out.1, by go_num, by rw [hd1]⟩
            case measure => simp [intOf]; omega
          · have g1 := KK.out.2.1 hf
            have E1 : Hd (M.take (k + 1) = M.take k ++ [(⟨y0, y1, y2⟩ : En)]) := ⟨by rw [KK.out.2.2.2, g1]⟩
            have T : Hd (Blk _ _ 24 (enA ⟨y0, y1, y2⟩) ∧ OwE _ w1.heap.size _ (M.take k) ∧ Below w1.heap.size w1 _) := ⟨nq.out, oq.out, bq.out⟩
            clear g1 nq oq bq
            by_cases hfk : f < k
            · have hd0 : decide (f < k) = true := decide_eq_true hfk
              have hd1 : decide (f < k + 1) = true := decide_eq_true (by omega)
              rw [hd0]
              clear KK hfk
              by_cases e : y0 = d
              · have e' : (y0 == d) = true := by simpa using e
                clear e hd0
                go_upto_region 15 with fail
                clear d0 d1 d2
                obtain ⟨⟨r0, r1, r2⟩, -⟩ := T.out.1.three
                simp only at r0 r1 r2
                have hs5 := T.out.2.2.size
                have OA : Hd (OwE (w4.alloc (.cells #[.int .i64 y0, .int .i64 y1, .string y2] 24)) w1.heap.size _ (M.take k)) := ⟨World.ownsRow.alloc T.out.2.1 _⟩
                have SA : Hd (SlE (w4.alloc (.cells #[.int .i64 y0, .int .i64 y1, .string y2] 24)) (some ⟨w4.heap.size, 0, none⟩) 1 [(⟨y0, y1, y2⟩ : En)]) := ⟨one_listE (Blk.new w4 24 #[.int .i64 y0, .int .i64 y1, .string y2])⟩
                go_wp2_with (at_builtin; refine wpl_ens rfl _ _ rfl w1.heap.size _ (M.take k) [(⟨y0, y1, y2⟩ : En)] rfl OA.out (some ⟨w4.heap.size, 0, none⟩) 1 1 rfl rfl SA.out (by have := TL.out k; simp only [List.length_singleton]; omega) (by have := hs5; first | (simp; omega) | simp) ?_; intro v9 w9 o9 g9)
                have R : Hd (OwE w9 w1.heap.size v9 (M.take (k + 1)) ∧ Below w1.heap.size w1 w9) := ⟨by rw [E1.out]; exact o9, OA.out.below (T.out.2.2.alloc hs5 _) (by simp; omega) g9⟩
                clear o9 g9 r0 r1 r2
                go_wp2
                go_roundw
                case rel => exact ⟨R.out.2, k + 1, by omega, R.out.1, by go_num, by rw [hd1]⟩
                case measure => simp [intOf]; omega
              · have e' : (y0 == d) = false := by simpa using e
                clear e hd0
                go_upto_region 15 with fail
                clear d0 d1 d2
                obtain ⟨⟨r0, r1, r2⟩, -⟩ := T.out.1.three
                simp only at r0 r1 r2
                have hs5 := T.out.2.2.size
                have OA : Hd (OwE (w4.alloc (.cells #[.int .i64 y0, .int .i64 y1, .string y2] 24)) w1.heap.size _ (M.take k)) := ⟨World.ownsRow.alloc T.out.2.1 _⟩
                have SA : Hd (SlE (w4.alloc (.cells #[.int .i64 y0, .int .i64 y1, .string y2] 24)) (some ⟨w4.heap.size, 0, none⟩) 1 [(⟨y0, y1, y2⟩ : En)]) := ⟨one_listE (Blk.new w4 24 #[.int .i64 y0, .int .i64 y1, .string y2])⟩
                go_wp2_with (at_builtin; refine wpl_ens rfl _ _ rfl w1.heap.size _ (M.take k) [(⟨y0, y1, y2⟩ : En)] rfl OA.out (some ⟨w4.heap.size, 0, none⟩) 1 1 rfl rfl SA.out (by have := TL.out k; simp only [List.length_singleton]; omega) (by have := hs5; first | (simp; omega) | simp) ?_; intro v9 w9 o9 g9)
                have R : Hd (OwE w9 w1.heap.size v9 (M.take (k + 1)) ∧ Below w1.heap.size w1 w9) := ⟨by rw [E1.out]; exact o9, OA.out.below (T.out.2.2.alloc hs5 _) (by simp; omega) g9⟩
                clear o9 g9 r0 r1 r2
                go_wp2
                go_roundw
                case rel => exact ⟨R.out.2, k + 1, by omega, R.out.1, by go_num, by rw [hd1]⟩
                case measure => simp [intOf]; omega
            · have e := KK.out.2.2.1 (by omega)
              have e' : (y0 == d) = false := by simpa using e
              have hd0 : decide (f < k) = false := decide_eq_false hfk
              have hd1 : decide (f < k + 1) = false := decide_eq_false (by omega)
              rw [hd0]
              clear e KK hfk hd0
              go_upto_region 15 with fail
              clear d0 d1 d2
              obtain ⟨⟨r0, r1, r2⟩, -⟩ := T.out.1.three
              simp only at r0 r1 r2
              have hs5 := T.out.2.2.size
              have OA : Hd (OwE (w4.alloc (.cells #[.int .i64 y0, .int .i64 y1, .string y2] 24)) w1.heap.size _ (M.take k)) := ⟨World.ownsRow.alloc T.out.2.1 _⟩
              have SA : Hd (SlE (w4.alloc (.cells #[.int .i64 y0, .int .i64 y1, .string y2] 24)) (some ⟨w4.heap.size, 0, none⟩) 1 [(⟨y0, y1, y2⟩ : En)]) := ⟨one_listE (Blk.new w4 24 #[.int .i64 y0, .int .i64 y1, .string y2])⟩
              go_wp2_with (at_builtin; refine wpl_ens rfl _ _ rfl w1.heap.size _ (M.take k) [(⟨y0, y1, y2⟩ : En)] rfl OA.out (some ⟨w4.heap.size, 0, none⟩) 1 1 rfl rfl SA.out (by have := TL.out k; simp only [List.length_singleton]; omega) (by have := hs5; first | (simp; omega) | simp) ?_; intro v9 w9 o9 g9)
              have R : Hd (OwE w9 w1.heap.size v9 (M.take (k + 1)) ∧ Below w1.heap.size w1 w9) := ⟨by rw [E1.out]; exact o9, OA.out.below (T.out.2.2.alloc hs5 _) (by simp; omega) g9⟩
              clear o9 g9 r0 r1 r2
              go_wp2
              go_roundw
              case rel => exact ⟨R.out.2, k + 1, by omega, R.out.1, by go_num, by rw [hd1]⟩
              case measure => simp [intOf]; omega
        · obtain rfl : k = n := by omega
          have R : Hd (_ ∧ _) := ⟨p3, hv⟩
          clear p3 hv
          go_wp2
          go_ret2
          refine ⟨⟨_, by rw [E.out.1]; rfl, ?_⟩, B.out.trans (R.out.1.mono B.out.size)⟩
          rw [E.out.2]
          have := R.out.2
          rw [List.take_of_length_le (by omega)] at this
          exact this.low B.out.size
end Go.Proofs.Ytomkmgebbiahcaa
