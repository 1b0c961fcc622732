/-
  What 'Split' of the reference answers where nothing is refused: the program's parts. Conditions: the shares lie in memory; nothing is refused.
-/
import Derived.Test.YtkohofiobpniiaaWalkF
namespace Go.Proofs.Ytkohofiobpniiaa
open Go.RowKit

set_option maxRecDepth 20000 in
set_option maxHeartbeats 2000000 in
theorem ref_yes (total : Int) (a : Option Addr) (n cap : Nat) (f : Nat → Int) (w : World) (hr : Row w a n f) (hf : Fits total n f) :
    Calls Try.prog 15 #[.int .i64 total, .slice a n cap] w fun e w' => ∃ a' cap', e = .returned (.tuple #[.slice a' n cap', .int .i64 0]) ∧ Row w' a' n (part total n f) ∧ Below w.heap.size w w' := by
  obtain ⟨i0, hi, hz0, hz1, hz2⟩ := info_parts Try.info3
  have hlen := hf.len
  have hpos := hf.pos
  have hlo := hf.lo
  have hhi := hf.hi
  obtain ⟨sb, off, rfl, hsb, hc⟩ := hr hpos
  clear hr
  go_enter Try.func15, Try.ntmps15
  go_wp2
  go_loop [6, 7] (fun s i => ∃ k : Nat, k ≤ n ∧ i = .int .i64 k ∧ s = .int .i64 (sumTo f k)) (fun _ i => n - (intOf i).toNat)
  case atStart => exact ⟨0, Nat.zero_le _, rfl, rfl⟩
  case round =>
    obtain ⟨k, hk, rfl, rfl⟩ := hrel
    have hs := sumTo_le hf.each k hk
    obtain ⟨hs1, hs2⟩ := hs
    by_cases hlt : k < n
    · have hcell := hc k hlt
      have hfk := hf.each k hlt
      obtain ⟨hf1, hf2⟩ := hfk
      clear hc hf
      go_wp2
      go_round
      case rel => exact ⟨k + 1, by omega, by go_num, by simp [sumTo]⟩
      case measure => simp [intOf]; omega
    · obtain rfl : k = n := by omega
      have hS := hf.some
      have hS2 := hf.sumHi
      clear hs1 hs2
      go_wp2
      go_loopw [8, 9, 10, 11] (fun v u l i wr => ∃ j : Nat, j ≤ k ∧ i = .int .i64 j ∧ l = .int .i64 (total - sumTo (quo total k f) j) ∧ Both wr w.heap.size j v u (quo total k f) (rem total k f) ∧ Below w.heap.size w wr) (fun _ _ _ i _ => k - (intOf i).toNat)
      case atStart => exact ⟨0, Nat.zero_le _, rfl, by simp [sumTo], ⟨World.ownsRow_nil _ _ _ _, World.ownsRow_nil _ _ _ _, .inl rfl⟩, Below.refl _ _⟩
      case round =>
        obtain ⟨j, hj, rfl, rfl, hbo, hb4⟩ := hrel
        by_cases hlt2 : j < k
        · have hcw : Hid (w.cell? ⟨sb, off + j, none⟩ = some (.int .i64 (f j))) := hc j hlt2
          have hcell := (hb4.cell (p := ⟨sb, off + j, none⟩) hsb).trans hcw.out
          have hp := hf.prod j hlt2
          obtain ⟨hp1, hp2⟩ := hp
          have hq : total * f j / sumTo f k = quo total k f j := rfl
          have hqq := quo_rem total k f j
          have hrr := hf.rem j
          rw [Int.mul_comm] at hqq
          have hl : total * f j - quo total k f j * sumTo f k = rem total k f j := by omega
          have hq1 : 0 ≤ quo total k f j * sumTo f k := by have := hf.quo j hlt2; exact Int.mul_nonneg this.1 (by omega)
          have hq2 : quo total k f j * sumTo f k ≤ 40960000 := by omega
          have hq3 := hf.quo j hlt2
          obtain ⟨hq4, hq5⟩ := hq3
          have hs := sumTo_le hf.quo j hj
          obtain ⟨hs1, hs2⟩ := hs
          have hsz := hb4.size
          clear hqq hrr hc hf
          obtain ⟨hv, hu, ha⟩ := id hbo
          go_wp2_with (first
            | (at_builtin; refine wpList_append_lies _ rfl (.tmp 65) (.tmp 67) 36 rfl w.heap.size 3 i0 (.int .i64 0) 1 8 Try.underlying36 hi hz0 hz1 hz2 rfl (by decide) _ _ _ rfl (hv.alloc _) ⟨wr.heap.size, 0, none⟩ 1 1 [.int .i64 (quo total k f j)] rfl rfl (one_new _ _) (one_cell _) (by decide) (by unfold maxLen; omega) (by omega) (by simp; omega) _ rfl ?_; intro g1 cap1 w1 hown1 hgrow1 hat1 hlt1; have hu1 := (hu.alloc _).kept hgrow1 ha.symm; have hsz1 := hgrow1.size; have hb5 : Below w.heap.size w w1 := (hb4.alloc hb4.size _).grown hgrow1 (by simp; omega) (fun q e => (hv.lt q e).1); have hcell1 := (hb5.cell (p := ⟨sb, off + j, none⟩) hsb).trans hcw.out; have hsz2 := hb5.size)
            | (at_builtin; refine wpList_append_lies _ rfl (.tmp 69) (.tmp 80) 36 rfl w.heap.size 3 i0 (.int .i64 0) 1 8 Try.underlying36 hi hz0 hz1 hz2 rfl (by decide) _ _ _ rfl (hu1.alloc _) ⟨w1.heap.size, 0, none⟩ 1 1 [.int .i64 (rem total k f j)] rfl rfl (one_new _ _) (one_cell _) (by decide) (by unfold maxLen; omega) (by omega) (by simp; omega) _ rfl ?_; intro g2 cap2 w2 hown2 hgrow2 hat2 hlt2'))
          have e1 := cellsOf_succ (quo total k f) j
          have e2 := cellsOf_succ (rem total k f) j
          rw [e1] at hown1
          rw [e2] at hown2
          have hbo' := hbo.step hown1 hat1 hlt1 hown2 hgrow2 hat2
          have hb6 : Below w.heap.size w w2 := (hb5.alloc hb5.size _).grown hgrow2 (by simp; omega) (fun q e => (hu1.lt q e).1)
          clear hbo hv hu ha hown1 hgrow1 hat1 hu1 hown2 hgrow2 hat2 hb5 hb4 hcell hcell1 e1 e2 hl hq
          go_wp2
          go_roundw
          case rel => exact ⟨j + 1, by omega, by go_num, by simp [sumTo]; omega, hbo', hb6⟩
          case measure => simp [intOf]; omega
        · obtain rfl : j = k := by omega
          obtain ⟨hv, hu, ha⟩ := hbo
          obtain ⟨g1, c1, rfl, hg1, hg1'⟩ := hv.form hpos
          obtain ⟨g2, c2, rfl, hg2, hg2'⟩ := hu.form hpos
          have hne : g1 ≠ g2 := by
            rcases ha with h | h
            · cases h
            · intro e; exact h (by rw [e]; rfl)
          have o1 := Own.owned hv
          have o2 := Own.owned hu
          have hov := hf.over
          have hover : over total j f = total - sumTo (quo total j f) j := rfl
          rw [hover] at hov
          obtain ⟨hv1, hv2⟩ := hov
          clear hv hu ha hover hc
          go_wp2
          go_loopw [10] (fun l wr => ∃ m : Nat, (m : Int) ≤ total - sumTo (quo total j f) j ∧ l = .int .i64 (total - sumTo (quo total j f) j - m) ∧ Own wr g1 j (hand (-1) j (quo total j f) (rem total j f) m).1 ∧ Own wr g2 j (hand (-1) j (quo total j f) (rem total j f) m).2 ∧ Below w.heap.size w wr) (fun l _ => (intOf l).toNat)
          case atStart => exact ⟨0, hv1, by simp, o1, o2, hb4⟩
          case round =>
            clear o1 o2 hb4
            obtain ⟨m, hm, rfl, p1, p2, hb5⟩ := hrel
            have hmk := hand_mark (n := j) (p := quo total j f) (r := rem total j f) (m := over total j f) (W := sumTo f j) (-1) (by omega) (fun k _ => ⟨(hf.rem k).1, Int.le_of_lt (hf.rem k).2⟩) hf.some (by rw [over_rem]; exact Int.le_refl _) m hm
            by_cases hlt3 : (m : Int) < total - sumTo (quo total j f) j
            · have hh : ∀ k, k < j → 0 ≤ (hand (-1) j (quo total j f) (rem total j f) m).1 k ∧ (hand (-1) j (quo total j f) (rem total j f) m).1 k ≤ 4097 := by
                rw [hmk.1]; exact hf.handed m hm
              have hst : hand (-1) j (quo total j f) (rem total j f) (m + 1) = (upd (hand (-1) j (quo total j f) (rem total j f) m).1 (arg (hand (-1) j (quo total j f) (rem total j f) m).2 j) ((hand (-1) j (quo total j f) (rem total j f) m).1 (arg (hand (-1) j (quo total j f) (rem total j f) m).2 j) + 1), upd (hand (-1) j (quo total j f) (rem total j f) m).2 (arg (hand (-1) j (quo total j f) (rem total j f) m).2 j) (-1)) := rfl
              have HST : Hid (hand (-1) j (quo total j f) (rem total j f) (m + 1) = _) := hst
              clear hst hmk hf
              generalize hand (-1) j (quo total j f) (rem total j f) m = st at *
              obtain ⟨P, L⟩ := st
              simp only at p1 p2 hh HST
              obtain ⟨wo, ew⟩ : ∃ wo, wo = wr := ⟨_, rfl⟩
              subst ew
              go_wp2
              go_loopw [13, 14] (fun b i wi => ∃ q : Nat, 1 ≤ q ∧ q ≤ j ∧ i = .int .i64 q ∧ b = .int .i64 (arg L q) ∧ Below wo.heap.size wo wi) (fun _ i _ => j - (intOf i).toNat)
              case atStart => exact ⟨1, Nat.le_refl _, hpos, rfl, by simp [arg], Below.refl _ _⟩
              case round =>
                obtain ⟨q, hq1, hq2, rfl, rfl, hb6⟩ := hrel
                have ha : arg L q < j := by have := arg_lt L q (by omega); omega
                by_cases hlt4 : q < j
                · have d1 := (hb6.cell (p := ⟨g2, q, none⟩) p2.1).trans (p2.2 q hlt4).1
                  have d2 := (hb6.cell (p := ⟨g2, arg L q, none⟩) p2.1).trans (p2.2 _ ha).1
                  clear p1 p2 hh HST
                  by_cases t : L (arg L q) < L q
                  · have e : arg L (q + 1) = q := by simp [arg, t]
                    have E : Hid (arg L (q + 1) = q) := e
                    clear e
                    go_wp2
                    go_quiet (fail)
                    go_wp2
                    go_roundw
                    case rel => exact ⟨q + 1, by omega, by omega, by go_num, by rw [E.out], ⟨hb6.os, hb6.tape, hb6.output, hb6.size, hb6.block⟩⟩
                    case measure => simp [intOf]; omega
                  · have e : arg L (q + 1) = arg L q := by simp [arg, t]
                    have E : Hid (arg L (q + 1) = arg L q) := e
                    clear e
                    go_wp2
                    go_quiet (fail)
                    go_wp2
                    go_roundw
                    case rel => exact ⟨q + 1, by omega, by omega, by go_num, by rw [E.out], ⟨hb6.os, hb6.tape, hb6.output, hb6.size, hb6.block⟩⟩
                    case measure => simp [intOf]; omega
                · obtain rfl : q = j := by omega
                  have o1 := p1.carry hb6
                  have o2 := p2.carry hb6
                  have hb7 : Below w.heap.size w wr := hb5.trans (hb6.mono hb5.size)
                  have r1 := (o1.store (arg L q) (P (arg L q) + 1) ha).other hne.symm (arg L q) (.int .i64 (-1))
                  have r2 := (o2.other hne (arg L q) (.int .i64 (P (arg L q) + 1))).store (arg L q) (-1) ha
                  have r3 := (hb7.setCell (p := ⟨g1, arg L q, none⟩) hg1 (.int .i64 (P (arg L q) + 1))).setCell (p := ⟨g2, arg L q, none⟩) hg2 (.int .i64 (-1))
                  have R : Hid (_ ∧ _ ∧ _) := ⟨r1, r2, r3⟩
                  obtain ⟨d1, f1⟩ := o1.2 _ ha
                  obtain ⟨d2, f2⟩ := o2.2 _ ha
                  obtain ⟨hh1, hh2⟩ := hh _ ha
                  clear r1 r2 r3 o1 o2 p1 p2 hh hb5 hb6 hb7
                  go_wp2
                  go_roundw
                  case rel => exact ⟨m + 1, by omega, by go_num, by rw [HST.out]; exact R.out⟩
                  case measure => simp [intOf]; omega
            · have em : (over total j f).toNat = m := by unfold over; omega
              have q1 : Own wr g1 j (part total j f) := by unfold part; rw [em, ← hmk.1]; exact p1
              clear p1 p2 hf hmk
              go_wp2
              go_ret2
              exact ⟨_, ⟨_, rfl⟩, q1.row, hb5⟩
end Go.Proofs.Ytkohofiobpniiaa
