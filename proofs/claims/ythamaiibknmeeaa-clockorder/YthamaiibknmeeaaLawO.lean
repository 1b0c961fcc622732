/-
  The walk of the statement 'ClockOrder'. Conditions: the list lies in memory.
-/
import Derived.Test.YthamaiibknmeeaaTwo
namespace Go.Proofs.Ythamaiibknmeeaa
open Go.RowKit Go.Lib Go.Sort Go.Maps

theorem two_refl (n t j k : Nat) (hj : j < n) (hk : k < n) (e : (j + t) % n = (k + t) % n) : j = k := by
  have h1 := Nat.div_add_mod (j + t) n
  have h2 := Nat.div_add_mod (k + t) n
  rw [e] at h1
  by_cases c : (j + t) / n = (k + t) / n
  · rw [c] at h1; omega
  · rcases (by omega : (j + t) / n + 1 ≤ (k + t) / n ∨ (k + t) / n + 1 ≤ (j + t) / n) with d | d
    · have := Nat.mul_le_mul_left n d
      rw [Nat.mul_add, Nat.mul_one] at this
      omega
    · have := Nat.mul_le_mul_left n d
      rw [Nat.mul_add, Nat.mul_one] at this
      omega
theorem two_onto (n t p : Nat) (hp : p < n) (ht : t < n) : ∃ j, j < n ∧ (j + t) % n = p := by
  by_cases c : t ≤ p
  · exact ⟨p - t, by omega, by rw [Nat.sub_add_cancel c]; exact Nat.mod_eq_of_lt hp⟩
  · refine ⟨p + n - t, by omega, ?_⟩
    rw [Nat.sub_add_cancel (by omega), Nat.add_mod_right]
    exact Nat.mod_eq_of_lt hp

/-- A moment that can be set at the moment 0. -/
def Fit (y : Int × Int) : Prop := 0 < y.1 ∧ y.1 ≤ 1099511627776

set_option maxRecDepth 20000 in
set_option maxHeartbeats 4000000 in
theorem order_walk (a : Option Addr) (n0 cap : Nat) (f : Nat → Int × Int) (turn to : Int) (w : World) (hr : DRow w a n0 f) (hwf : ∀ k, k < n0 → WfD (f k)) (hc : n0 ≤ cap) (hcm : cap ≤ 9223372036854775807) (hnil : a = none → n0 = 0 ∧ cap = 0) :
    Calls Try.prog 7 #[.slice a n0 cap, .int .i64 turn, .int .i64 to] w fun e w' => e = .returned (.bool true) ∧ Below w.heap.size w w' := by
  have A := awake_any w
  go_enter Try.func7, Try.ntmps7
  go_wp2_with fail
  go_at_call 8
  refine A.mono ?_
  rintro e w1 ⟨rfl, b1⟩
  clear A
  obtain ⟨n, hn⟩ : ∃ n, n = min n0 60 := ⟨_, rfl⟩
  have hm : (if (60 : Int) < (n0 : Int) then (60 : Int) else (n0 : Int)) = (n : Int) := by split <;> omega
  have hn1 : n ≤ n0 := by omega
  have hn2 : n ≤ 60 := by omega
  have hn3 : n ≤ cap := by omega
  clear hn
  have hb1w := b1.size
  cases a with
  | none =>
    obtain ⟨rfl, rfl⟩ := hnil rfl
    obtain rfl : n = 0 := by omega
    go_wp2_with fail
    go_loopw [8] (fun v wr => v = .int .i64 0 ∧ Below w.heap.size w wr) (fun _ _ => 0)
    case atStart => exact ⟨rfl, b1⟩
    case round =>
      obtain ⟨rfl, bk⟩ := hrel
      have N1 := from_new wr
      go_wp2_with fail
      go_at_call 9
      refine N1.mono ?_
      rintro e w2 ⟨gb, rfl, H2, b2⟩
      have N2 := from_new w2
      clear N1
      go_wp2_with fail
      go_at_call 9
      refine N2.mono ?_
      rintro e w3 ⟨hb, rfl, H3, b3⟩
      have bk3 : Below w.heap.size w w3 := (bk.trans (b2.mono bk.size)).trans (b3.mono (Nat.le_trans bk.size b2.size))
      obtain ⟨Sa, Sb, T3⟩ := trio_of (H2.base bk.size) H3 b3
      clear N2 b2 b3 H2 H3 bk
      go_wp2_with fail
      go_loopw [12] (fun v wr => v = .int .i64 0 ∧ (∃ Sa Sb, Trio w.heap.size wr gb Sa 0 (fun _ => False) 0 hb Sb 0 (fun _ => False) 0 (.slice none 0 0) []) ∧ Below w.heap.size w wr) (fun _ _ => 0)
      case atStart => exact ⟨rfl, ⟨_, _, T3⟩, bk3⟩
      case round =>
        obtain ⟨rfl, ⟨Sa, Sb, T⟩, bk4⟩ := hrel
        clear T3 bk3
        by_cases c1 : to < 0
        · have A1 := advance_early T.a to c1
          have A2 := advance_early T.b to c1
          have SM := DOwn.same (DOwn.nil wr.heap.size wr) (DOwn.nil wr.heap.size wr)
          go_wp2_with fail
          go_at_call 14
          refine A1.mono ?_
          rintro e w' ⟨rfl, hw⟩
          obtain rfl := hw.symm
          go_wp2_with fail
          go_at_call 14
          refine A2.mono ?_
          rintro e w' ⟨rfl, hw⟩
          obtain rfl := hw.symm
          go_wp2_with fail
          go_at_call 16
          refine SM.mono ?_
          rintro e w7 ⟨rfl, b7⟩
          have LA := left_any (T.a.below b7)
          have LB := left_any (T.b.below b7)
          go_wp2_with fail
          go_at_call 20
          refine LA.mono ?_
          rintro e w' ⟨rfl, hw⟩
          obtain rfl := hw.symm
          go_wp2_with fail
          go_at_call 20
          refine LB.mono ?_
          rintro e w' ⟨rfl, hw⟩
          obtain rfl := hw.symm
          go_wp2
          go_ret
          exact ⟨rfl, bk4.trans (b7.mono bk4.size)⟩
        by_cases c2 : 1099511627776 < to
        · have A1 := advance_late T.a to (by omega) c2
          have A2 := advance_late T.b to (by omega) c2
          have SM := DOwn.same (DOwn.nil wr.heap.size wr) (DOwn.nil wr.heap.size wr)
          go_wp2_with fail
          go_at_call 14
          refine A1.mono ?_
          rintro e w' ⟨rfl, hw⟩
          obtain rfl := hw.symm
          go_wp2_with fail
          go_at_call 14
          refine A2.mono ?_
          rintro e w' ⟨rfl, hw⟩
          obtain rfl := hw.symm
          go_wp2_with fail
          go_at_call 16
          refine SM.mono ?_
          rintro e w7 ⟨rfl, b7⟩
          have LA := left_any (T.a.below b7)
          have LB := left_any (T.b.below b7)
          go_wp2_with fail
          go_at_call 20
          refine LA.mono ?_
          rintro e w' ⟨rfl, hw⟩
          obtain rfl := hw.symm
          go_wp2_with fail
          go_at_call 20
          refine LB.mono ?_
          rintro e w' ⟨rfl, hw⟩
          obtain rfl := hw.symm
          go_wp2
          go_ret
          exact ⟨rfl, bk4.trans (b7.mono bk4.size)⟩
        have A1 := T.symm.adv to (by omega) (by omega)
        have hSb := T.b.lt
        go_wp2_with fail
        go_at_call 14
        refine A1.mono ?_
        rintro e w5 ⟨u5, L5, rfl, D5, hL5, _, T5, k5, b5, _⟩
        have b5' := bk4.trans b5
        have A2 := T5.symm.adv to (by omega) (by omega)
        clear A1 T
        go_wp2_with fail
        go_at_call 14
        refine A2.mono ?_
        rintro e w6 ⟨u6', L6, rfl, D6, hL6, _, T6, k6, b6, _⟩
        have b6' := b5'.trans b6
        obtain rfl := hL6.unique hL5 fun y => Iff.rfl
        have D5' : DOwn wr.heap.size w6 u5 L6 := D5.kept k6 fun g e hs => by
          have := (World.ownsRow.lt D5 g e).1
          have := hSb g hs
          omega
        have SM := DOwn.same D5' D6
        clear A2 T5 k5 k6 D5 D5' D6 b5 b6
        go_wp2_with fail
        go_at_call 16
        refine SM.mono ?_
        rintro e w7 ⟨rfl, b7⟩
        have LA := left_any (T6.a.below b7)
        have LB := left_any (T6.b.below b7)
        clear SM T6
        go_wp2_with fail
        go_at_call 20
        refine LA.mono ?_
        rintro e w' ⟨rfl, hw⟩
        obtain rfl := hw.symm
        go_wp2_with fail
        go_at_call 20
        refine LB.mono ?_
        rintro e w' ⟨rfl, hw⟩
        obtain rfl := hw.symm
        go_wp2
        go_ret
        exact ⟨rfl, b6'.trans (b7.mono b6'.size)⟩
  | some x =>
    go_wp2_with fail
    go_loopw [8] (fun v wr => ∃ i : Nat, i ≤ n ∧ v = .int .i64 i ∧ (∀ p q, q < p → p < i → (f p).2 ≠ (f q).2) ∧ Below w.heap.size w wr) (fun v _ => n - (intOf v).toNat)
    case atStart => exact ⟨0, by omega, rfl, fun p q _ h => by omega, b1⟩
    case round =>
      obtain ⟨i, hi, rfl, hd, bk⟩ := hrel
      by_cases hlt : i < n
      · have hlt' : (i : Int) < (n : Int) := by omega
        obtain ⟨b, off, e, hbl, hcl⟩ := hr (by omega)
        cases e
        obtain ⟨wo, ew⟩ : ∃ wo, wo = wr := ⟨_, rfl⟩
        subst ew
        go_wp2_with fail
        go_loopw [9] (fun v wr => ∃ k : Nat, k ≤ i ∧ v = .int .i64 k ∧ (∀ q, q < k → (f i).2 ≠ (f q).2) ∧ Below w.heap.size w wr) (fun v _ => n - (intOf v).toNat)
        case atStart => exact ⟨0, by omega, rfl, fun q h => by omega, bk⟩
        case round =>
          obtain ⟨k, hk, rfl, hq, bk2⟩ := hrel
          by_cases hki : k < i
          · have hki' : (k : Int) < (i : Int) := by omega
            have hkn' : (k : Int) < (n : Int) := by omega
            have d1 := (bk2.cell (p := ⟨b, off + i * 2, none⟩) hbl).trans (hcl i (by omega)).1
            have d2 := (bk2.cell (p := ⟨b, off + k * 2, none⟩) hbl).trans (hcl k (by omega)).1
            by_cases e : (f i).2 = (f k).2
            · have e' : ((f i).2 == (f k).2) = true := by simpa using e
              clear hr hwf hcl e
              go_wp2_with fail
              refine region_still (by kernel_rfl) ?_
              repeat still_step
              refine wpStill_nil ?_
              go_wp2
              go_ret
              exact ⟨rfl, ⟨bk2.os, bk2.tape, bk2.output, bk2.size, bk2.block⟩⟩
            · have e' : ((f i).2 == (f k).2) = false := by simpa using e
              have hq' : ∀ q, q < k + 1 → (f i).2 ≠ (f q).2 := by
                intro q h
                by_cases c : q = k
                · rw [c]; exact e
                · exact hq q (by omega)
              clear hr hwf hcl e hq
              go_wp2_with fail
              refine region_still (by kernel_rfl) ?_
              repeat still_step
              refine wpStill_nil ?_
              go_wp2
              go_roundw
              case rel => exact ⟨k + 1, by omega, by go_num, hq', ⟨bk2.os, bk2.tape, bk2.output, bk2.size, bk2.block⟩⟩
              case measure => simp [intOf]; omega
          · obtain rfl : k = i := by omega
            have hd' : ∀ p q, q < p → p < k + 1 → (f p).2 ≠ (f q).2 := by
              intro p q h1 h2
              by_cases c : p = k
              · rw [c]; exact hq q (by omega)
              · exact hd p q h1 (by omega)
            clear hr hwf hcl hq hd
            go_wp2
            go_roundw
            case rel => exact ⟨k + 1, by omega, by go_num, hd', bk2⟩
            case measure => simp [intOf]; omega
      · obtain rfl : i = n := by omega
        have N1 := from_new wr
        go_wp2_with fail
        go_at_call 9
        refine N1.mono ?_
        rintro e w2 ⟨gb, rfl, H2, b2⟩
        have N2 := from_new w2
        clear N1
        go_wp2_with fail
        go_at_call 9
        refine N2.mono ?_
        rintro e w3 ⟨hb, rfl, H3, b3⟩
        have bk3 : Below w.heap.size w w3 := (bk.trans (b2.mono bk.size)).trans (b3.mono (Nat.le_trans bk.size b2.size))
        obtain ⟨Sa, Sb, T3⟩ := trio_of (H2.base bk.size) H3 b3
        clear N2 b2 b3 H2 H3 bk
        obtain ⟨t, ht⟩ : ∃ t : Nat, 0 < i → (IntKind.u64.wrap turn).tmod (i : Int) = (t : Int) ∧ t < i := by
          refine ⟨((IntKind.u64.wrap turn) % (i : Int)).toNat, fun h => ?_⟩
          have h0 : 0 ≤ IntKind.u64.wrap turn := by rw [IntKind.wrap_u64]; omega
          have h1 := Int.emod_nonneg (IntKind.u64.wrap turn) (show (i : Int) ≠ 0 by omega)
          have h2 := Int.emod_lt_of_pos (IntKind.u64.wrap turn) (show (0 : Int) < (i : Int) by omega)
          rw [Int.tmod_eq_emod_of_nonneg h0]
          omega
        go_wp2_with fail
        go_loopw [12] (fun v wr => ∃ j : Nat, j ≤ i ∧ v = .int .i64 j ∧ (∃ Sa Sb na nb, na ≤ j ∧ nb ≤ j ∧ Trio w.heap.size wr gb Sa 0 (fun y => ∃ p, p < j ∧ y = f p ∧ Fit y) na hb Sb 0 (fun y => ∃ p, p < j ∧ y = f ((p + t) % i) ∧ Fit y) nb (.slice none 0 0) []) ∧ Below w.heap.size w wr) (fun v _ => i - (intOf v).toNat)
        case atStart => exact ⟨0, by omega, rfl, ⟨Sa, Sb, 0, 0, by omega, by omega, (T3.congr (fun y => ⟨fun ⟨p, h, _⟩ => absurd h (by omega), fun h => h.elim⟩)).symm.congr (fun y => ⟨fun ⟨p, h, _⟩ => absurd h (by omega), fun h => h.elim⟩) |>.symm⟩, bk3⟩
        case round =>
          obtain ⟨j, hj, rfl, ⟨Sa', Sb', na, nb, hna, hnb, T⟩, bk4⟩ := hrel
          clear T3 bk3
          by_cases hji : j < i
          · have hji' : (j : Int) < (i : Int) := by omega
            obtain ⟨b, off, e, hbl, hcl⟩ := hr (by omega)
            cases e
            obtain ⟨et, hti⟩ := ht (by omega)
            obtain ⟨p, hp⟩ : ∃ p, p = (j + t) % i := ⟨_, rfl⟩
            have hpi : p < i := by rw [hp]; exact Nat.mod_lt _ (by omega)
            have ep : ((j : Int) + (t : Int)).tmod (i : Int) = (p : Int) := by
              rw [Int.tmod_eq_emod_of_nonneg (by omega), hp, Int.natCast_emod, Int.natCast_add]
            have hpi' : (p : Int) < (i : Int) := by omega
            have wfj := hwf j (by omega)
            have wfp := hwf p (by omega)
            have x0 := (bk4.cell (p := ⟨b, off + p * 2, none⟩) hbl).trans (hcl p (by omega)).1
            have x1 := (bk4.cell (p := ⟨b, off + p * 2 + 1, none⟩) hbl).trans (hcl p (by omega)).2
            have z0 := (hcl j (by omega)).1
            have z1 := (hcl j (by omega)).2
            have hnoj : ∀ y, (∃ p, p < j ∧ y = f p ∧ Fit y) → y.2 ≠ (f j).2 := by
              rintro y ⟨q, hq, rfl, _⟩ e
              exact hd j q hq (by omega) e.symm
            have hnop : ∀ y, (∃ q, q < j ∧ y = f ((q + t) % i) ∧ Fit y) → y.2 ≠ (f p).2 := by
              rintro y ⟨q, hq, rfl, _⟩ e
              have c : (q + t) % i ≠ p := by
                intro c
                rw [hp] at c
                have := two_refl i t q j (by omega) hji c
                omega
              have m1 : (q + t) % i < i := Nat.mod_lt _ (by omega)
              rcases (by omega : (q + t) % i < p ∨ p < (q + t) % i) with c1 | c1
              · exact hd p _ c1 (by omega) e.symm
              · exact hd _ p c1 (by omega) e
            have q0 := (bk4.cell (p := ⟨b, off + j * 2, none⟩) hbl).trans z0
            have q1 := (bk4.cell (p := ⟨b, off + j * 2 + 1, none⟩) hbl).trans z1
            have Hpe : Hid (p = (j + t) % i) := hp
            obtain ⟨w4, hw4⟩ : ∃ w4, w4 = wr.alloc (.cells #[.int .i64 (f p).2, .int .i64 (f p).1] 43) := ⟨_, rfl⟩
            have b4 : Below wr.heap.size wr w4 := hw4 ▸ (Below.refl _ _).alloc (Nat.le_refl _) _
            have s4 : wr.heap.size < w4.heap.size := by rw [hw4]; simp
            have bx0 : w4.cell? ⟨wr.heap.size, 0, none⟩ = some (.int .i64 (f p).2) := by rw [hw4]; simp [go_sem]
            have bx1 : w4.cell? ⟨wr.heap.size, 1, none⟩ = some (.int .i64 (f p).1) := by rw [hw4]; simp [go_sem]
            have b5 : Below w.heap.size w w4 := bk4.trans (b4.mono bk4.size)
            have y0 := (b5.cell (p := ⟨b, off + j * 2, none⟩) hbl).trans z0
            have y1 := (b5.cell (p := ⟨b, off + j * 2 + 1, none⟩) hbl).trans z1
            have T4 := T.below b4
            have nA : ¬ Sa' wr.heap.size := fun h => by have := T.a.lt _ h; omega
            have nB : ¬ Sb' wr.heap.size := fun h => by have := T.b.lt _ h; omega
            have P1 := fun q => (T4.symm.below (w' := w4.drewN q) ⟨rfl, rfl, rfl, Nat.le_refl _, fun _ _ => rfl⟩).set (f j).2 (f j).1 wfj.2
            clear hcl hr hwf hd T hp T4
            go_wp2_with fail
            rw [← hw4]
            clear hw4 x0 x1 q0 q1
            refine region_tail 11 (by kernel_rfl) ?_
            simp only [List.take_succ_cons, List.take_zero, List.drop_succ_cons, List.drop_zero]
            repeat still_step
            refine wpStill_nil ?_
            go_wp2_with fail
            go_at_call 10
            refine (P1 _).mono ?_
            rintro e w5 ⟨rfl, ⟨Sa5, T5, g5⟩, k5, b6⟩
            have b6' : Below w.heap.size w w5 := Below.trans (show Below w.heap.size w (w4.drewN 1) from ⟨b5.os, b5.tape, b5.output, b5.size, b5.block⟩) b6
            have bx0' : w5.cell? ⟨wr.heap.size, 0, none⟩ = some (.int .i64 (f p).2) := (k5.cell (o := 0) s4 nA).trans bx0
            have bx1' : w5.cell? ⟨wr.heap.size, 1, none⟩ = some (.int .i64 (f p).1) := (k5.cell (o := 1) s4 nA).trans bx1
            have P2 := T5.symm.set (f p).2 (f p).1 wfp.2
            have eA := fun y => setM_fresh (at_ := (f j).1) hnoj (show na < 4096 by omega) y
            have eB := fun y => setM_fresh (at_ := (f p).1) hnop (show nb < 4096 by omega) y
            have lA := setN_le 0 (fun y => ∃ p, p < j ∧ y = f p ∧ Fit y) na (f j).2 (f j).1
            have lB := setN_le 0 (fun y => ∃ p, p < j ∧ y = f ((p + t) % i) ∧ Fit y) nb (f p).2 (f p).1
            clear P1 k5 b6 g5 y0 y1 bx0 bx1
            go_wp2_with fail
            go_at_call 10
            refine P2.mono ?_
            rintro e w6 ⟨rfl, ⟨Sb6, T6, g6⟩, k6, b7⟩
            have b8 := b6'.trans b7
            clear P2 T5 k6 b7 g6 bx0' bx1' b5 b6' b4
            go_wp2
            go_roundw
            case rel =>
              refine ⟨j + 1, by omega, by go_num, ⟨Sa5, Sb6, _, _, Nat.le_trans lA (by omega), Nat.le_trans lB (by omega), (T6.congr (fun y => ?_)).symm.congr (fun y => ?_) |>.symm⟩, b8⟩
              · rw [eB]
                constructor
                · rintro ⟨q, hq, rfl, hf⟩
                  by_cases c : q = j
                  · subst c
                    rw [← Hpe.out] at hf ⊢
                    exact .inl ⟨rfl, hf⟩
                  · exact .inr ⟨q, by omega, rfl, hf⟩
                · rintro (⟨rfl, hf⟩ | ⟨q, hq, rfl, hf⟩)
                  · exact ⟨j, by omega, by rw [← Hpe.out], hf⟩
                  · exact ⟨q, by omega, rfl, hf⟩
              · rw [eA]
                constructor
                · rintro ⟨q, hq, rfl, hf⟩
                  by_cases c : q = j
                  · subst c
                    exact .inl ⟨rfl, hf⟩
                  · exact .inr ⟨q, by omega, rfl, hf⟩
                · rintro (⟨rfl, hf⟩ | ⟨q, hq, rfl, hf⟩)
                  · exact ⟨j, by omega, rfl, hf⟩
                  · exact ⟨q, by omega, rfl, hf⟩
            case measure => simp [intOf]; omega
          · obtain rfl : j = i := by omega
            have eM : ∀ y, (∃ p, p < j ∧ y = f p ∧ Fit y) ↔ (∃ p, p < j ∧ y = f ((p + t) % j) ∧ Fit y) := by
              intro y
              constructor
              · rintro ⟨q, hq, rfl, hf⟩
                obtain ⟨_, hti⟩ := ht (by omega)
                obtain ⟨q', h1, h2⟩ := two_onto j t q hq hti
                exact ⟨q', h1, by rw [h2], hf⟩
              · rintro ⟨q, hq, rfl, hf⟩
                exact ⟨(q + t) % j, Nat.mod_lt _ (by omega), rfl, hf⟩
            have en := T.a.same_n T.b eM
            subst en
            clear hr hwf hd
            by_cases c1 : to < 0
            · have A1 := advance_early T.a to c1
              have A2 := advance_early T.b to c1
              have SM := DOwn.same (DOwn.nil wr.heap.size wr) (DOwn.nil wr.heap.size wr)
              go_wp2_with fail
              go_at_call 14
              refine A1.mono ?_
              rintro e w' ⟨rfl, hw⟩
              obtain rfl := hw.symm
              go_wp2_with fail
              go_at_call 14
              refine A2.mono ?_
              rintro e w' ⟨rfl, hw⟩
              obtain rfl := hw.symm
              go_wp2_with fail
              go_at_call 16
              refine SM.mono ?_
              rintro e w7 ⟨rfl, b7⟩
              have LA := left_any (T.a.below b7)
              have LB := left_any (T.b.below b7)
              go_wp2_with fail
              go_at_call 20
              refine LA.mono ?_
              rintro e w' ⟨rfl, hw⟩
              obtain rfl := hw.symm
              go_wp2_with fail
              go_at_call 20
              refine LB.mono ?_
              rintro e w' ⟨rfl, hw⟩
              obtain rfl := hw.symm
              go_wp2
              go_ret
              exact ⟨rfl, bk4.trans (b7.mono bk4.size)⟩
            by_cases c2 : 1099511627776 < to
            · have A1 := advance_late T.a to (by omega) c2
              have A2 := advance_late T.b to (by omega) c2
              have SM := DOwn.same (DOwn.nil wr.heap.size wr) (DOwn.nil wr.heap.size wr)
              go_wp2_with fail
              go_at_call 14
              refine A1.mono ?_
              rintro e w' ⟨rfl, hw⟩
              obtain rfl := hw.symm
              go_wp2_with fail
              go_at_call 14
              refine A2.mono ?_
              rintro e w' ⟨rfl, hw⟩
              obtain rfl := hw.symm
              go_wp2_with fail
              go_at_call 16
              refine SM.mono ?_
              rintro e w7 ⟨rfl, b7⟩
              have LA := left_any (T.a.below b7)
              have LB := left_any (T.b.below b7)
              go_wp2_with fail
              go_at_call 20
              refine LA.mono ?_
              rintro e w' ⟨rfl, hw⟩
              obtain rfl := hw.symm
              go_wp2_with fail
              go_at_call 20
              refine LB.mono ?_
              rintro e w' ⟨rfl, hw⟩
              obtain rfl := hw.symm
              go_wp2
              go_ret
              exact ⟨rfl, bk4.trans (b7.mono bk4.size)⟩
            have A1 := T.symm.adv to (by omega) (by omega)
            have hSb := T.b.lt
            go_wp2_with fail
            go_at_call 14
            refine A1.mono ?_
            rintro e w5 ⟨u5, L5, rfl, D5, hL5, _, T5, k5, b5, _⟩
            have b5' := bk4.trans b5
            have A2 := T5.symm.adv to (by omega) (by omega)
            clear A1 T
            go_wp2_with fail
            go_at_call 14
            refine A2.mono ?_
            rintro e w6 ⟨u6', L6, rfl, D6, hL6, _, T6, k6, b6, _⟩
            have b6' := b5'.trans b6
            obtain rfl := hL6.unique hL5 fun y => and_congr_left fun _ => (eM y).symm
            have D5' : DOwn wr.heap.size w6 u5 L6 := D5.kept k6 fun g e hs => by
              have := (World.ownsRow.lt D5 g e).1
              have := hSb g hs
              omega
            have SM := DOwn.same D5' D6
            clear A2 T5 k5 k6 D5 D5' D6 b5 b6
            go_wp2_with fail
            go_at_call 16
            refine SM.mono ?_
            rintro e w7 ⟨rfl, b7⟩
            have LA := left_any (T6.a.below b7)
            have LB := left_any (T6.b.below b7)
            clear SM T6
            go_wp2_with fail
            go_at_call 20
            refine LA.mono ?_
            rintro e w' ⟨rfl, hw⟩
            obtain rfl := hw.symm
            go_wp2_with fail
            go_at_call 20
            refine LB.mono ?_
            rintro e w' ⟨rfl, hw⟩
            obtain rfl := hw.symm
            go_wp2
            go_ret
            exact ⟨rfl, b6'.trans (b7.mono b6'.size)⟩
end Go.Proofs.Ythamaiibknmeeaa
