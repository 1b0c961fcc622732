/-
  The walk of the statement 'HeapSorts'. Conditions: the list lies in memory.
-/
import Derived.Test.YtomohkoenohmbaaRow
namespace Go.Proofs.Ytomohkoenohmbaa
open Go.RowKit Go.Lib Go.Sort Go.Maps

set_option maxRecDepth 20000 in
set_option maxHeartbeats 4000000 in
theorem sorts_any (a : Option Addr) (n cap : Nat) (f : Nat → Int × Int) (w : World) (hr : Row w a n f) (hwf : ∀ k, k < n → Wf (f k)) (hn : n ≤ 9223372036854775807) :
    Calls Try.prog 4 #[.slice a n cap] w fun e w' => e = .returned (.bool true) ∧ Below w.heap.size w w' := by
  have A := awake_any w
  go_enter Try.func4, Try.ntmps4
  go_wp2_with fail
  go_at_call 8
  refine A.mono ?_
  rintro e w1 ⟨rfl, b1⟩
  have N := held_new w1
  clear A
  go_wp2_with fail
  go_at_call 9
  refine N.mono ?_
  rintro e w2 ⟨hb, rfl, H2, b2⟩
  have bb : Below w.heap.size w w2 := b1.trans (b2.mono b1.size)
  have H2' := H2.base b1.size
  clear N b1 b2 H2
  go_wp2_with fail
  go_loopw [4, 5] (fun u v wr => ∃ (k m : Nat) (M : Int × Int → Prop), k ≤ 1024 ∧ m ≤ k ∧ k ≤ n ∧ v = .int .i64 k ∧ u = .int .i64 m ∧ Held w.heap.size wr hb M m ∧ Below w.heap.size w wr) (fun _ v _ => 1024 - (intOf v).toNat)
  case atStart => exact ⟨0, 0, _, by omega, by omega, by omega, rfl, rfl, H2', bb⟩
  case round =>
    obtain ⟨k, m, M, hk, hm, hkn, rfl, rfl, H, bk⟩ := hrel
    clear H2' bb
    by_cases hlt : k < n ∧ k < 1024
    · obtain ⟨hl1, hl2⟩ := hlt
      have hwk := hwf k hl1
      obtain ⟨b, off, rfl, hb1, hc⟩ := hr (by omega)
      obtain ⟨c0, c1⟩ := hc k hl1
      have d0 := (bk.cell (p := ⟨b, off + k * 2, none⟩) hb1).trans c0
      have d1 := (bk.cell (p := ⟨b, off + k * 2 + 1, none⟩) hb1).trans c1
      have i1 : (k : Int) < (n : Int) := by omega
      have i2 : (k : Int) < 1024 := by omega
      clear hc hwf hr
      by_cases hin : ∃ y, M y ∧ y.2 = (f k).2
      · obtain ⟨y, hy, ey⟩ := hin
        have P := H.twice (f k) y hwk hy ey
        unfold vI at P
        go_wp2_with fail
        go_at_call 11
        refine P.mono ?_
        rintro e w3 ⟨rfl, b3⟩
        have H3 := H.below b3
        have b3' := bk.trans (b3.mono H.1)
        have G := H3.get y hy
        rw [ey] at G
        have e0 := (b3'.cell (p := ⟨b, off + k * 2, none⟩) hb1).trans c0
        have e1 := (b3'.cell (p := ⟨b, off + k * 2 + 1, none⟩) hb1).trans c1
        unfold vI at G
        clear P H b3 d0 d1
        go_wp2_with fail
        go_at_call 17
        refine G.mono ?_
        rintro e w4 ⟨rfl, b4⟩
        have H4 := (H3.below b4).below ((Below.refl _ _).alloc (Nat.le_refl _) (.cells #[.int .u64 y.1, .int .i64 (f k).2] 29))
        have b4' := b3'.trans (b4.mono H3.1)
        have b5' := b4'.alloc b4'.size (.cells #[.int .u64 y.1, .int .i64 (f k).2] 29)
        clear G b4 H3 e0 e1
        go_wp2
        go_roundw
        case rel => exact ⟨k + 1, m, M, by omega, by omega, by omega, by go_num, rfl, H4, b5'⟩
        case measure => simp [intOf]; omega
      · have P := H.push (by omega) (f k) hwk (fun y hy e => hin ⟨y, hy, e⟩)
        unfold vI at P
        clear hin
        go_wp2_with fail
        go_at_call 11
        refine P.mono ?_
        rintro e w3 ⟨rfl, H3, b3⟩
        have b3' := bk.trans b3
        clear P H b3 d0 d1
        go_wp2
        go_roundw
        case rel => exact ⟨k + 1, m + 1, _, by omega, by omega, by omega, by go_num, by go_num, H3, b3'⟩
        case measure => simp [intOf]; omega
    · obtain ⟨hB, S, HS, hSB⟩ := H
      have nS : ¬ S wr.heap.size := fun h => by have := HS.2.2.1 _ h; omega
      have hm4 : m ≤ 4096 := by omega
      obtain ⟨w3, hw3⟩ : ∃ w3, w3 = wr.alloc (.cells #[.int .u64 0, .int .i64 0] 29) := ⟨_, rfl⟩
      have HS3 : HeapIs w3 hb S M m := hw3 ▸ HS.below ((Below.refl _ _).alloc (Nat.le_refl _) _)
      have b3 : Below w.heap.size w w3 := hw3 ▸ bk.alloc bk.size _
      have l0 : w3.cell? ⟨wr.heap.size, 0, none⟩ = some (.int .u64 0) := by rw [hw3]; simp [go_sem]
      have l1 : w3.cell? ⟨wr.heap.size, 1, none⟩ = some (.int .i64 0) := by rw [hw3]; simp [go_sem]
      have l2 : w3.frozen? ⟨wr.heap.size, 0, none⟩ = false := by rw [hw3]; simp [go_sem]
      have l3 : w3.frozen? ⟨wr.heap.size, 1, none⟩ = false := by rw [hw3]; simp [go_sem]
      have l4 : wr.heap.size < w3.heap.size := by rw [hw3]; simp
      have l5 : w.heap.size ≤ wr.heap.size := bk.size
      rcases (by omega : ¬ (k : Int) < (n : Int) ∨ (k : Int) < (n : Int) ∧ ¬ (k : Int) < 1024) with q1 | ⟨q1, q2⟩
      all_goals
        clear hr hwf hlt HS bk
        go_wp2_with fail
        rw [← hw3]
        clear hw3
        generalize wr.heap.size = LB at *
        go_loopw [9] (fun v w4 => ∃ (j : Nat) (M : Int × Int → Prop) (z : Int × Int), j ≤ m ∧ v = .int .i64 j ∧ HeapIs w4 hb S M (m - j) ∧ (0 < j → ∀ y, M y → lt z y) ∧ (w4.cell? ⟨LB, 0, none⟩ = some (.int .u64 z.1) ∧ w4.cell? ⟨LB, 1, none⟩ = some (.int .i64 z.2) ∧
          w4.frozen? ⟨LB, 0, none⟩ = false ∧ w4.frozen? ⟨LB, 1, none⟩ = false ∧ LB < w4.heap.size) ∧ Below w.heap.size w w4) (fun v _ => m - (intOf v).toNat)
        case atStart => exact ⟨0, M, (0, 0), by omega, rfl, HS3, fun h => by omega, ⟨l0, l1, l2, l3, l4⟩, b3⟩
        case round =>
          clear HS3 b3 l0 l1 l2 l3 l4
          obtain ⟨j, M', z, hj, rfl, H4, hz, ⟨z0, z1, z2, z3, z4⟩, b4⟩ := hrel
          by_cases hjm : j < m
          · have hjm' : (j : Int) < (m : Int) := by omega
            have P := pop_some H4 (by omega)
            go_wp2_with fail
            go_at_call 12
            refine P.mono ?_
            rintro e w5 ⟨x, rfl, ⟨hx1, hx2⟩, H5, k5⟩
            have hzx := fun h => hz h x hx1
            have hxw := H4.1 x hx1
            have y0 := (k5.cell (o := 0) z4 nS).trans z0
            have y1 := (k5.cell (o := 1) z4 nS).trans z1
            have y2 := (k5.frozen (o := 0) z4 nS).trans z2
            have y3 := (k5.frozen (o := 1) z4 nS).trans z3
            have y4 := Nat.lt_of_lt_of_le z4 k5.size
            have b5 : Below w.heap.size w w5 := b4.trans (k5.below b4.size hSB)
            have G := get_none (H5.below (w' := w5.alloc (.cells #[.int .u64 x.1, .int .i64 x.2] 29)) ((Below.refl _ _).alloc (Nat.le_refl _) _)) x.2 hxw.2 (fun y hy => hy.2)
            have b6 := b5.alloc b5.size (.cells #[.int .u64 x.1, .int .i64 x.2] 29)
            have hs6 : (w5.alloc (.cells #[.int .u64 x.1, .int .i64 x.2] 29)).heap.size = w5.heap.size + 1 := by simp
            clear P z0 z1 z2 z3 z4 k5 b4 H4
            unfold vI at G ⊢
            have T : ¬ (0 < (j : Int)) ∨ (0 < (j : Int) ∧ ¬ x.1 < z.1 ∧ (x.1 == z.1) = false) ∨ (0 < (j : Int) ∧ ¬ x.1 < z.1 ∧ (x.1 == z.1) = true ∧ ¬ x.2 ≤ z.2) := by
              by_cases c : 0 < j
              · have h := hzx c
                unfold lt at h
                simp only [beq_iff_eq, beq_eq_false_iff_ne, ne_eq]
                omega
              · exact .inl (by omega)
            rcases T with t | ⟨t1, t2, t3⟩ | ⟨t1, t2, t3, t4⟩
            all_goals
              go_wp2_with fail
              go_at_call 17
              refine G.mono ?_
              rintro e w6 ⟨rfl, b7⟩
              have v0 : w6.cell? ⟨LB, 0, none⟩ = some (.int .u64 z.1) := (b7.cell (p := ⟨LB, 0, none⟩) (by simp; omega)).trans (by simp [go_sem, y0, y4])
              have v1 : w6.cell? ⟨LB, 1, none⟩ = some (.int .i64 z.2) := (b7.cell (p := ⟨LB, 1, none⟩) (by simp; omega)).trans (by simp [go_sem, y1, y4])
              have v2 : w6.frozen? ⟨LB, 0, none⟩ = false := (b7.frozen (p := ⟨LB, 0, none⟩) (by simp; omega)).trans (by simp [go_sem, y2, y4])
              have v3 : w6.frozen? ⟨LB, 1, none⟩ = false := (b7.frozen (p := ⟨LB, 1, none⟩) (by simp; omega)).trans (by simp [go_sem, y3, y4])
              have v4 : LB < w6.heap.size := Nat.lt_of_lt_of_le (by simp; omega) b7.size
              have u0 : w6.cell? ⟨w5.heap.size, 0, none⟩ = some (.int .u64 x.1) := (b7.cell (p := ⟨w5.heap.size, 0, none⟩) (by simp)).trans (by simp [go_sem])
              have u1 : w6.cell? ⟨w5.heap.size, 1, none⟩ = some (.int .i64 x.2) := (b7.cell (p := ⟨w5.heap.size, 1, none⟩) (by simp)).trans (by simp [go_sem])
              have u4 : w5.heap.size < w6.heap.size := Nat.lt_of_lt_of_le (by simp) b7.size
              have H6 := (H5.below (w' := w5.alloc (.cells #[.int .u64 x.1, .int .i64 x.2] 29)) ((Below.refl _ _).alloc (Nat.le_refl _) _)).below b7
              have b8 := b6.trans (b7.mono b6.size)
              clear b7 y0 y1 y2 y3 y4 G b5 b6 hs6
              go_wp2
              go_roundw
              case rel =>
                have k7 : Kept (fun k => k = LB) w6 (((w6.setCell ⟨LB, 0, none⟩ (.int .u64 x.1)).setCell ⟨LB, 1, none⟩ (.int .i64 x.2)).alloc (.cells #[.int .u64 0, .int .i64 0] 29)) := (((Kept.refl (fun k => k = LB) w6).setCell ⟨LB, 0, none⟩ _ rfl).setCell ⟨LB, 1, none⟩ _ rfl).alloc _
                have H7 := H6.kept k7 (fun b hb e => nS (e ▸ hb))
                rw [Nat.sub_sub] at H7
                exact ⟨j + 1, _, x, by omega, by go_num, H7, fun _ y hy => lt_of_ne (hx2 y hy.1) (fun e => hy.2 e.symm),
                  ⟨by simp [go_sem, v0, v4], by simp [go_sem, v1, v4], by simp [go_sem, v2, v4], by simp [go_sem, v3, v4], by simp; omega⟩, b8.trans (k7.below b8.size (fun k e => e ▸ l5))⟩
              case measure => simp [intOf]; omega
          · obtain rfl : j = m := by omega
            rw [Nat.sub_self] at H4
            have P := pop_none H4
            clear hz z0 z1 z2 z3
            go_wp2_with fail
            go_at_call 12
            refine P.mono ?_
            rintro e w5 ⟨rfl, b5⟩
            have b6 := b4.trans (b5.mono b4.size)
            have b7 := b6.alloc b6.size (.cells #[.int .u64 0, .int .i64 0] 29)
            have L := len_any ((H4.below b5).below (w' := w5.alloc (.cells #[.int .u64 0, .int .i64 0] 29)) ((Below.refl _ _).alloc (Nat.le_refl _) _))
            unfold vI
            clear P b5 H4 b4
            go_wp2_with (go_at_call 22; refine L.mono ?_; rintro e w' ⟨rfl, hw⟩; obtain rfl := hw.symm)
            go_ret
            exact ⟨rfl, b7⟩
end Go.Proofs.Ytomohkoenohmbaa
