/-
  The walk of the statement 'HeapOrder'. Conditions: the list lies in memory.
-/
import Derived.Test.YtomohkoenohmbaaWalkN
namespace Go.Proofs.Ytomohkoenohmbaa
open Go.RowKit Go.Lib Go.Sort Go.Maps

theorem two_refl (n t j k : Nat) (hj : j < n) (hk : k < n) (e : (j + t) % n = (k + t) % n) : j = k := by
  have h1 := Nat.div_add_mod (j + t) n
  have h2 := Nat.div_add_mod (k + t) n
  rw [e] at h1
  by_cases c : (j + t) / n = (k + t) / n
  · rw [c] at h1; omega
  · rcases (by omega : (j + t) / n + 1 ≤ (k + t) / n ∨ (k + t) / n + 1 ≤ (j + t) / n) with d | d
    · have := Nat.mul_le_mul_left n d
      rw [Nat.mul_add, Nat.mul_one] at this
      omega
    · have := Nat.mul_le_mul_left n d
      rw [Nat.mul_add, Nat.mul_one] at this
      omega
theorem two_onto (n t p : Nat) (hp : p < n) (ht : t < n) : ∃ j, j < n ∧ (j + t) % n = p := by
  by_cases c : t ≤ p
  · exact ⟨p - t, by omega, by rw [Nat.sub_add_cancel c]; exact Nat.mod_eq_of_lt hp⟩
  · refine ⟨p + n - t, by omega, ?_⟩
    rw [Nat.sub_add_cancel (by omega), Nat.add_mod_right]
    exact Nat.mod_eq_of_lt hp

set_option maxRecDepth 20000 in
set_option maxHeartbeats 4000000 in
theorem order_walk (a : Option Addr) (n0 cap : Nat) (f : Nat → Int × Int) (turn : Int) (w : World) (hr : Row w a n0 f) (hwf : ∀ k, k < n0 → Wf (f k)) (hc : n0 ≤ cap) (hcm : cap ≤ 9223372036854775807) (hnil : a = none → n0 = 0 ∧ cap = 0) :
    Calls Try.prog 7 #[.slice a n0 cap, .int .i64 turn] w fun e w' => e = .returned (.bool true) ∧ Below w.heap.size w w' := by
  have A := awake_any w
  go_enter Try.func7, Try.ntmps7
  go_wp2_with fail
  go_at_call 8
  refine A.mono ?_
  rintro e w1 ⟨rfl, b1⟩
  clear A
  obtain ⟨n, hn⟩ : ∃ n, n = min n0 60 := ⟨_, rfl⟩
  have hm : min (n0 : Int) 60 = (n : Int) := by omega
  have hn1 : n ≤ n0 := by omega
  have hn2 : n ≤ 60 := by omega
  have hn3 : n ≤ cap := by omega
  clear hn
  have hb1w := b1.size
  cases a with
  | none =>
    obtain ⟨rfl, rfl⟩ := hnil rfl
    obtain rfl : n = 0 := by omega
    have hm0 : min (0 : Int) 60 = 0 := by decide
    go_wp2_with fail
    go_loopw [6] (fun v wr => v = .int .i64 0 ∧ Below w.heap.size w wr) (fun _ _ => 0)
    case atStart => exact ⟨rfl, b1⟩
    case round =>
      obtain ⟨rfl, bk⟩ := hrel
      have N1 := held_new wr
      go_wp2_with fail
      go_at_call 9
      refine N1.mono ?_
      rintro e w2 ⟨gb, rfl, H2, b2⟩
      have N2 := two_new w2 (H2.base bk.size)
      clear N1
      go_wp2_with fail
      go_at_call 9
      refine N2.mono ?_
      rintro e w3 ⟨hb, rfl, T3, b3⟩
      have bk3 : Below w.heap.size w w3 := (bk.trans (b2.mono bk.size)).trans (b3.mono (Nat.le_trans bk.size b2.size))
      clear N2 b2 b3 H2 bk
      go_wp2_with fail
      go_loopw [10] (fun v wr => v = .int .i64 0 ∧ (∃ X, Two w.heap.size X wr gb hb (fun _ => False) (fun _ => False) 0 0) ∧ Below w.heap.size w wr) (fun _ _ => 0)
      case atStart => exact ⟨rfl, ⟨_, T3⟩, bk3⟩
      case round =>
        obtain ⟨rfl, ⟨X, T⟩, bk4⟩ := hrel
        clear T3 bk3
        have L1 := T.list
        go_wp2_with fail
        go_at_call 20
        refine L1.mono ?_
        rintro e w5 ⟨a1, cp1, La, rfl, A1, O1, T5, b5⟩
        have b6 := bk4.trans (b5.mono bk4.size)
        have L2 := T5.symm.list
        clear L1 T
        go_wp2_with fail
        go_at_call 20
        refine L2.mono ?_
        rintro e w6 ⟨a2, cp2, Lb, rfl, A2, O2, T6, b7⟩
        have b8 := b6.trans (b7.mono b6.size)
        have SM := same_yes a1 a2 0 cp1 cp2 _ _ w6 (A1.row.carry b7) A2.row (by omega) (fun k hk => by omega)
        clear L2 T5 T6 A1 A2 O1 O2
        go_wp2_with (go_at_call 19; refine SM.mono ?_; rintro e w7 ⟨rfl, b9⟩)
        go_ret
        exact ⟨rfl, b8.trans (b9.mono b8.size)⟩
  | some x =>
    go_wp2_with fail
    go_loopw [6] (fun v wr => ∃ i : Nat, i ≤ n ∧ v = .int .i64 i ∧ (∀ p q, q < p → p < i → (f p).2 ≠ (f q).2) ∧ Below w.heap.size w wr) (fun v _ => n - (intOf v).toNat)
    case atStart => exact ⟨0, by omega, rfl, fun p q _ h => by omega, b1⟩
    case round =>
      obtain ⟨i, hi, rfl, hd, bk⟩ := hrel
      by_cases hlt : i < n
      · have hlt' : (i : Int) < (n : Int) := by omega
        obtain ⟨b, off, e, hbl, hcl⟩ := hr (by omega)
        cases e
        obtain ⟨wo, ew⟩ : ∃ wo, wo = wr := ⟨_, rfl⟩
        subst ew
        go_wp2_with fail
        go_loopw [7] (fun v wr => ∃ k : Nat, k ≤ i ∧ v = .int .i64 k ∧ (∀ q, q < k → (f i).2 ≠ (f q).2) ∧ Below w.heap.size w wr) (fun v _ => n - (intOf v).toNat)
        case atStart => exact ⟨0, by omega, rfl, fun q h => by omega, bk⟩
        case round =>
          obtain ⟨k, hk, rfl, hq, bk2⟩ := hrel
          by_cases hki : k < i
          · have hki' : (k : Int) < (i : Int) := by omega
            have hkn' : (k : Int) < (n : Int) := by omega
            have d1 := (bk2.cell (p := ⟨b, off + i * 2 + 1, none⟩) hbl).trans (hcl i (by omega)).2
            have d2 := (bk2.cell (p := ⟨b, off + k * 2 + 1, none⟩) hbl).trans (hcl k (by omega)).2
            by_cases e : (f i).2 = (f k).2
            · have e' : ((f i).2 == (f k).2) = true := by simpa using e
              clear hr hwf hcl e
              go_wp2_with fail
              refine region_still (by kernel_rfl) ?_
              repeat still_step
              refine wpStill_nil ?_
              go_wp2
              go_ret
              exact ⟨rfl, ⟨bk2.os, bk2.tape, bk2.output, bk2.size, bk2.block⟩⟩
            · have e' : ((f i).2 == (f k).2) = false := by simpa using e
              have hq' : ∀ q, q < k + 1 → (f i).2 ≠ (f q).2 := by
                intro q h
                by_cases c : q = k
                · rw [c]; exact e
                · exact hq q (by omega)
              clear hr hwf hcl e hq
              go_wp2_with fail
              refine region_still (by kernel_rfl) ?_
              repeat still_step
              refine wpStill_nil ?_
              go_wp2
              go_roundw
              case rel => exact ⟨k + 1, by omega, by go_num, hq', ⟨bk2.os, bk2.tape, bk2.output, bk2.size, bk2.block⟩⟩
              case measure => simp [intOf]; omega
          · obtain rfl : k = i := by omega
            have hd' : ∀ p q, q < p → p < k + 1 → (f p).2 ≠ (f q).2 := by
              intro p q h1 h2
              by_cases c : p = k
              · rw [c]; exact hq q (by omega)
              · exact hd p q h1 (by omega)
            clear hr hwf hcl hq hd
            go_wp2
            go_roundw
            case rel => exact ⟨k + 1, by omega, by go_num, hd', bk2⟩
            case measure => simp [intOf]; omega
      · obtain rfl : i = n := by omega
        have N1 := held_new wr
        go_wp2_with fail
        go_at_call 9
        refine N1.mono ?_
        rintro e w2 ⟨gb, rfl, H2, b2⟩
        have N2 := two_new w2 (H2.base bk.size)
        clear N1
        go_wp2_with fail
        go_at_call 9
        refine N2.mono ?_
        rintro e w3 ⟨hb, rfl, T3, b3⟩
        have bk3 : Below w.heap.size w w3 := (bk.trans (b2.mono bk.size)).trans (b3.mono (Nat.le_trans bk.size b2.size))
        clear N2 b2 b3 H2 bk
        obtain ⟨t, ht⟩ : ∃ t : Nat, 0 < i → (IntKind.u64.wrap turn).tmod (i : Int) = (t : Int) ∧ t < i := by
          refine ⟨((IntKind.u64.wrap turn) % (i : Int)).toNat, fun h => ?_⟩
          have h0 : 0 ≤ IntKind.u64.wrap turn := by rw [IntKind.wrap_u64]; omega
          have h1 := Int.emod_nonneg (IntKind.u64.wrap turn) (show (i : Int) ≠ 0 by omega)
          have h2 := Int.emod_lt_of_pos (IntKind.u64.wrap turn) (show (0 : Int) < (i : Int) by omega)
          rw [Int.tmod_eq_emod_of_nonneg h0]
          omega
        go_wp2_with fail
        go_loopw [10] (fun v wr => ∃ j : Nat, j ≤ i ∧ v = .int .i64 j ∧ (∃ X, Two w.heap.size X wr gb hb (fun y => ∃ p, p < j ∧ y = f p) (fun y => ∃ p, p < j ∧ y = f ((p + t) % i)) j j) ∧ Below w.heap.size w wr) (fun v _ => i - (intOf v).toNat)
        case atStart => exact ⟨0, by omega, rfl, ⟨_, T3.congr (fun y => ⟨fun ⟨p, h, _⟩ => absurd h (by omega), fun h => h.elim⟩) (fun y => ⟨fun ⟨p, h, _⟩ => absurd h (by omega), fun h => h.elim⟩)⟩, bk3⟩
        case round =>
          obtain ⟨j, hj, rfl, ⟨X, T⟩, bk4⟩ := hrel
          clear T3 bk3
          by_cases hji : j < i
          · have hji' : (j : Int) < (i : Int) := by omega
            obtain ⟨b, off, e, hbl, hcl⟩ := hr (by omega)
            cases e
            obtain ⟨et, hti⟩ := ht (by omega)
            obtain ⟨p, hp⟩ : ∃ p, p = (j + t) % i := ⟨_, rfl⟩
            have hpi : p < i := by rw [hp]; exact Nat.mod_lt _ (by omega)
            have ep : ((j : Int) + (t : Int)).tmod (i : Int) = (p : Int) := by
              rw [Int.tmod_eq_emod_of_nonneg (by omega), hp, Int.natCast_emod, Int.natCast_add]
            have hpi' : (p : Int) < (i : Int) := by omega
            have wfj := hwf j (by omega)
            have wfp := hwf p (by omega)
            have x0 := (bk4.cell (p := ⟨b, off + p * 2, none⟩) hbl).trans (hcl p (by omega)).1
            have x1 := (bk4.cell (p := ⟨b, off + p * 2 + 1, none⟩) hbl).trans (hcl p (by omega)).2
            have z0 := (hcl j (by omega)).1
            have z1 := (hcl j (by omega)).2
            have hnoj : ∀ y, (∃ p, p < j ∧ y = f p) → y.2 ≠ (f j).2 := by
              rintro y ⟨q, hq, rfl⟩ e
              exact hd j q hq (by omega) e.symm
            have hnop : ∀ y, (∃ q, q < j ∧ y = f ((q + t) % i)) → y.2 ≠ (f p).2 := by
              rintro y ⟨q, hq, rfl⟩ e
              have c : (q + t) % i ≠ p := by
                intro c
                rw [hp] at c
                have := two_refl i t q j (by omega) hji c
                omega
              have m1 : (q + t) % i < i := Nat.mod_lt _ (by omega)
              rcases (by omega : (q + t) % i < p ∨ p < (q + t) % i) with c1 | c1
              · exact hd p _ c1 (by omega) e.symm
              · exact hd _ p c1 (by omega) e
            have T1 := T.box (.cells #[.int .u64 (f p).1, .int .i64 (f p).2] 29)
            have b5 := bk4.alloc bk4.size (.cells #[.int .u64 (f p).1, .int .i64 (f p).2] 29)
            have y0 := (b5.cell (p := ⟨b, off + j * 2, none⟩) hbl).trans z0
            have y1 := (b5.cell (p := ⟨b, off + j * 2 + 1, none⟩) hbl).trans z1
            have bx0 : (wr.alloc (.cells #[.int .u64 (f p).1, .int .i64 (f p).2] 29)).cell? ⟨wr.heap.size, 0, none⟩ = some (.int .u64 (f p).1) := by simp [go_sem]
            have bx1 : (wr.alloc (.cells #[.int .u64 (f p).1, .int .i64 (f p).2] 29)).cell? ⟨wr.heap.size, 1, none⟩ = some (.int .i64 (f p).2) := by simp [go_sem]
            have blw : b < wr.heap.size := Nat.lt_of_lt_of_le hbl bk4.size
            have q0 := (bk4.cell (p := ⟨b, off + j * 2, none⟩) hbl).trans z0
            have q1 := (bk4.cell (p := ⟨b, off + j * 2 + 1, none⟩) hbl).trans z1
            have P1 := T1.push (by omega) (f j) wfj hnoj
            unfold vI at P1
            have hpe : p = (j + t) % i := hp
            have Hpe : Hid (p = (j + t) % i) := hpe
            clear hcl hr hwf hd T hp hpe
            go_wp2_with fail
            go_at_call 11
            refine P1.mono ?_
            rintro e w5 ⟨rfl, T5, b6, hX⟩
            have hX0 := hX _ rfl
            have bx0' : w5.cell? ⟨wr.heap.size, 0, none⟩ = some (.int .u64 (f p).1) := (World.cell?_of_block hX0).trans bx0
            have bx1' : w5.cell? ⟨wr.heap.size, 1, none⟩ = some (.int .i64 (f p).2) := (World.cell?_of_block hX0).trans bx1
            have b7 := b5.trans b6
            obtain ⟨K, hK⟩ : ∃ K, K = IntKind.u64.wrap ((f p).1.tdiv 2) := ⟨_, rfl⟩
            have wfh : Wf (K, (f p).2) := ⟨by rw [hK, IntKind.wrap_u64]; dsimp only; omega, wfp.2⟩
            have P2 := T5.symm.push (by omega) (K, (f p).2) wfh hnop
            unfold vI at P2
            dsimp only at P2
            rw [hK] at P2
            clear P1 T1 hX bx0 bx1 b5 b6 y0 y1 q0 q1
            go_wp2_with fail
            go_at_call 11
            refine P2.mono ?_
            rintro e w6 ⟨rfl, T6, b8, hX⟩
            have hX1 := hX _ rfl
            have by0 : w6.cell? ⟨wr.heap.size, 0, none⟩ = some (.int .u64 (f p).1) := (World.cell?_of_block hX1).trans bx0'
            have by1 : w6.cell? ⟨wr.heap.size, 1, none⟩ = some (.int .i64 (f p).2) := (World.cell?_of_block hX1).trans bx1'
            have b9 := b7.trans b8
            have P3 := T6.change (f p) _ wfp (.inl rfl) rfl
            unfold vI at P3
            clear P2 T5 hX bx0' bx1' b7 b8
            go_wp2_with fail
            go_at_call 16
            refine P3.mono ?_
            rintro e w7 ⟨rfl, T7, b10⟩
            have b11 := b9.trans b10
            clear P3 T6 by0 by1 b9 b10
            go_wp2
            go_roundw
            case rel =>
              refine ⟨j + 1, by omega, by go_num, ⟨_, T7.symm.congr (fun y => ?_) (fun y => ?_)⟩, b11⟩
              · constructor
                · rintro ⟨q, hq, rfl⟩
                  by_cases c : q = j
                  · exact .inl (by rw [c])
                  · exact .inr ⟨q, by omega, rfl⟩
                · rintro (rfl | ⟨q, hq, rfl⟩)
                  · exact ⟨j, by omega, rfl⟩
                  · exact ⟨q, by omega, rfl⟩
              · constructor
                · rintro ⟨q, hq, rfl⟩
                  by_cases c : q = j
                  · exact .inl (by rw [c, ← Hpe.out])
                  · exact .inr ⟨.inr ⟨q, by omega, rfl⟩, hnop _ ⟨q, by omega, rfl⟩⟩
                · rintro (rfl | ⟨rfl | ⟨q, hq, rfl⟩, h⟩)
                  · exact ⟨j, by omega, by rw [← Hpe.out]⟩
                  · exact absurd rfl h
                  · exact ⟨q, by omega, rfl⟩
            case measure => simp [intOf]; omega
          · obtain rfl : j = i := by omega
            have L1 := T.list
            clear hr hwf hd
            go_wp2_with fail
            go_at_call 20
            refine L1.mono ?_
            rintro e w5 ⟨a1, cp1, La, rfl, A1, O1, T5, b5⟩
            have b6 := bk4.trans (b5.mono bk4.size)
            have L2 := T5.symm.list
            clear L1 T
            go_wp2_with fail
            go_at_call 20
            refine L2.mono ?_
            rintro e w6 ⟨a2, cp2, Lb, rfl, A2, O2, T6, b7⟩
            have b8 := b6.trans (b7.mono b6.size)
            have eL : La = Lb := O1.unique O2 (fun y => by
              constructor
              · rintro ⟨q, hq, rfl⟩
                obtain ⟨_, hti⟩ := ht (by omega)
                obtain ⟨q', h1, h2⟩ := two_onto j t q hq hti
                exact ⟨q', h1, by rw [h2]⟩
              · rintro ⟨q, hq, rfl⟩
                exact ⟨(q + t) % j, Nat.mod_lt _ (by omega), rfl⟩)
            have SM := same_yes a1 a2 j cp1 cp2 _ _ w6 (A1.row.carry b7) A2.row (by omega) (fun k _ => by rw [eL])
            clear L2 T5 T6 A1 A2 O1 O2
            go_wp2_with (go_at_call 19; refine SM.mono ?_; rintro e w7 ⟨rfl, b9⟩)
            go_ret
            exact ⟨rfl, b8.trans (b9.mono b8.size)⟩
end Go.Proofs.Ytomohkoenohmbaa
