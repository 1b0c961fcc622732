/-
  What 'firstBelow', 'up' and 'down' of the program do to a heap that lies in memory. Conditions: as each theorem says them.
-/
import Derived.Test.YthamaiibknmeeaaWalkC
namespace Go.Proofs.Ythamaiibknmeeaa
open Go.RowKit Go.Lib Go.Sort Go.Maps

set_option maxHeartbeats 1000000 in
theorem firstBelow_any {w : World} {hb mb g n cap : Nat} {f : Nat → Int × Int} {c : Nat} {pos : Int → Option Nat} (H : HM w hb mb g n cap f c pos) (i : Nat) (hi : 2 * i + 1 < n) (hn : n ≤ 8192) :
    Calls Try.prog 37 #[.pointer (some ⟨hb, 0, none⟩), .int .i64 i] w fun e w' => ∃ b : Nat, e = .returned (.int .i64 b) ∧ (0 < b ∧ b < n ∧ (b - 1) / 2 = i ∧ ∀ j, 0 < j → j < n → (j - 1) / 2 = i → ¬ lt (f j) (f b)) ∧ Below w.heap.size w w' := by
  have c0 := H.c0
  obtain ⟨l0, l1⟩ := H.arr.cells hi
  have i1 : 2 * (i : Int) + 1 < (n : Int) := by omega
  have e1 : (2 * (i : Int) + 1).toNat = 2 * i + 1 := by omega
  have p1 : (0 : Int) ≤ 2 * (i : Int) + 1 := by omega
  by_cases h : 2 * i + 2 < n
  · obtain ⟨r0, r1⟩ := H.arr.cells h
    have i2 : 2 * (i : Int) + 2 < (n : Int) := by omega
    have e2 : (2 * (i : Int) + 2).toNat = 2 * i + 2 := by omega
    have p2 : (0 : Int) ≤ 2 * (i : Int) + 2 := by omega
    have G := goesFirst_any (f (2 * i + 2)) (f (2 * i + 1))
    by_cases hlt : lt (f (2 * i + 2)) (f (2 * i + 1))
    · have P : 0 < 2 * i + 2 ∧ 2 * i + 2 < n ∧ (2 * i + 2 - 1) / 2 = i ∧ ∀ j, 0 < j → j < n → (j - 1) / 2 = i → ¬ lt (f j) (f (2 * i + 2)) := by
        refine ⟨by omega, h, by omega, fun j h1 h2 h3 => ?_⟩
        rcases (by omega : j = 2 * i + 1 ∨ j = 2 * i + 2) with rfl | rfl
        · exact lt_asymm hlt
        · exact lt_irrefl _
      rw [ltYes hlt] at G
      clear hlt H
      go_enter Try.func37, Try.ntmps37
      go_wp2_with fail
      refine region_tail 22 (by kernel_rfl) ?_
      simp only [List.take_succ_cons, List.take_zero, List.drop_succ_cons, List.drop_zero]
      repeat still_step
      refine wpStill_nil ?_
      go_wp2_with (go_at_call 38; refine (G _).mono ?_; rintro e w' ⟨rfl, hw⟩)
      go_ret
      exact ⟨2 * i + 2, by go_num, P, ⟨hw.os, hw.tape, hw.output, hw.size, hw.block⟩⟩
    · have P : 0 < 2 * i + 1 ∧ 2 * i + 1 < n ∧ (2 * i + 1 - 1) / 2 = i ∧ ∀ j, 0 < j → j < n → (j - 1) / 2 = i → ¬ lt (f j) (f (2 * i + 1)) := by
        refine ⟨by omega, hi, by omega, fun j h1 h2 h3 => ?_⟩
        rcases (by omega : j = 2 * i + 1 ∨ j = 2 * i + 2) with rfl | rfl
        · exact lt_irrefl _
        · exact hlt
      rw [ltNo hlt] at G
      clear hlt H
      go_enter Try.func37, Try.ntmps37
      go_wp2_with fail
      refine region_tail 22 (by kernel_rfl) ?_
      simp only [List.take_succ_cons, List.take_zero, List.drop_succ_cons, List.drop_zero]
      repeat still_step
      refine wpStill_nil ?_
      go_wp2_with (go_at_call 38; refine (G _).mono ?_; rintro e w' ⟨rfl, hw⟩)
      go_ret
      exact ⟨2 * i + 1, by go_num, P, ⟨hw.os, hw.tape, hw.output, hw.size, hw.block⟩⟩
  · have P : 0 < 2 * i + 1 ∧ 2 * i + 1 < n ∧ (2 * i + 1 - 1) / 2 = i ∧ ∀ j, 0 < j → j < n → (j - 1) / 2 = i → ¬ lt (f j) (f (2 * i + 1)) := by
      refine ⟨by omega, hi, by omega, fun j h1 h2 h3 => ?_⟩
      obtain rfl : j = 2 * i + 1 := by omega
      exact lt_irrefl _
    have hd : decide (2 * (i : Int) + 2 < (n : Int)) = false := decide_eq_false (by omega)
    clear H
    go_enter Try.func37, Try.ntmps37
    go_wp2_with fail
    go_quiet (fail)
    go_wp2
    go_ret
    exact ⟨2 * i + 1, by go_num, P, ⟨rfl, rfl, rfl, Nat.le_refl _, fun _ _ => rfl⟩⟩

set_option maxRecDepth 20000 in
set_option maxHeartbeats 1000000 in
theorem up_any {w : World} {hb mb g n cap : Nat} {f : Nat → Int × Int} {c : Nat} {pos : Int → Option Nat} (H : HM w hb mb g n cap f c pos) (i : Nat) (x : Int × Int) (M : Int × Int → Prop) (G : Gap f n i x M pos)
    (hM : ∀ y, M y → Wf y ∧ y.2 ≠ x.2) (hn : n ≤ 8192) (hc : c ≤ 8192) :
    Calls Try.prog 36 #[.pointer (some ⟨hb, 0, none⟩), .int .i64 i, vI x] w fun e w' => ∃ (i' : Nat) (f' : Nat → Int × Int) (pos' : Int → Option Nat), e = .returned (.int .i64 i') ∧ HM w' hb mb g n cap f' c pos' ∧ Gap f' n i' x M pos' ∧
      (0 < i' → ¬ lt x (f' ((i' - 1) / 2))) ∧ pos' x.2 = pos x.2 ∧ Kept (In2 g mb) w w' := by
  unfold vI
  go_enter Try.func36, Try.ntmps36
  go_wp2_with fail
  obtain ⟨w1, hw1⟩ : ∃ w1, w1 = w.alloc (.cells #[.int .u64 x.1, .int .i64 x.2] 61) := ⟨_, rfl⟩
  have H1 : HM w1 hb mb g n cap f c pos := hw1 ▸ H.alloc _
  have bx0 : w1.cell? ⟨w.heap.size, 0, none⟩ = some (.int .u64 x.1) := by rw [hw1]; simp [go_sem]
  have bx1 : w1.cell? ⟨w.heap.size, 1, none⟩ = some (.int .i64 x.2) := by rw [hw1]; simp [go_sem]
  have bl : w.heap.size < w1.heap.size := by rw [hw1]; simp
  have nb : ¬ In2 g mb w.heap.size := by have := H.arr.lt; have := H.map.lt; unfold In2; omega
  have k1 : Kept (In2 g mb) w w1 := hw1 ▸ (Kept.refl _ w).alloc _
  rw [← hw1]
  clear hw1 H
  generalize w.heap.size = B at *
  go_loopw [1] (fun v wr => ∃ (i' : Nat) (f' : Nat → Int × Int) (pos' : Int → Option Nat), v = .int .i64 i' ∧ HM wr hb mb g n cap f' c pos' ∧ Gap f' n i' x M pos' ∧ pos' x.2 = pos x.2 ∧ Kept (In2 g mb) w1 wr) (fun v _ => (intOf v).toNat)
  case atStart => exact ⟨i, f, pos, rfl, H1, G, rfl, Kept.refl _ _⟩
  case round =>
    obtain ⟨i', f', pos', rfl, H', G', hpx, kr⟩ := hrel
    have hin := G'.inn
    by_cases h0 : 0 < i'
    · obtain ⟨a, ha⟩ : ∃ a, a = (i' - 1) / 2 := ⟨_, rfl⟩
      have hal : a < n := by omega
      have ea : ((i' : Int) - 1) / 2 = (a : Int) := by omega
      have h0' : (0 : Int) < (i' : Int) := by omega
      have i1 : (a : Int) < (n : Int) := by omega
      have c0 := H'.c0
      have b0 := (kr.cell (o := 0) bl nb).trans bx0
      have b1 := (kr.cell (o := 1) bl nb).trans bx1
      obtain ⟨g0, g1⟩ := H'.arr.cells hal
      have F := goesFirst_any x (f' a)
      by_cases hlt : lt x (f' a)
      · rw [ltYes hlt] at F
        have hMa : M (f' a) := (G'.mem _).2 ⟨a, hal, by omega, rfl⟩
        obtain ⟨hwf, hne⟩ := hM _ hMa
        have hpa : pos' (f' a).2 = some a := (G'.at_ _ hne a).2 ⟨hal, by omega, rfl⟩
        have G2 := G'.up h0
        rw [← ha] at G2
        have hlti : a < i' := by omega
        clear ha
        go_wp2_with fail
        refine region_tail 8 (by kernel_rfl) ?_
        simp only [List.take_succ_cons, List.take_zero, List.drop_succ_cons, List.drop_zero]
        repeat still_step
        refine wpStill_nil ?_
        go_wp2_with fail
        go_at_call 38
        refine (F _).mono ?_
        rintro e w2 ⟨rfl, hbel⟩
        have hbel' : Below wr.heap.size wr w2 := ⟨hbel.os, hbel.tape, hbel.output, hbel.size, hbel.block⟩
        have H2 := H'.below hbel'
        have k2 := kr.trans (Kept.of_below hbel' _)
        have P := put_any H2 i' hin hn hc (f' a) hwf
        rw [hpa, cnt_some] at P
        have c02 := H2.c0
        obtain ⟨g02, g12⟩ := H2.arr.cells hal
        clear c0 b0 b1 g0 g1 F H' hbel hbel' H2
        go_wp2_with (go_at_call 34; refine P.mono ?_; rintro e w3 ⟨rfl, H3, k3⟩)
        go_roundw
        case rel => exact ⟨a, _, _, by go_num, H3, G2, by rw [updp_other (fun e => hne e.symm)]; exact hpx, k2.trans k3⟩
        case measure => simp [intOf]; omega
      · rw [ltNo hlt] at F
        have hlt' : ¬ lt x (f' ((i' - 1) / 2)) := by rw [← ha]; exact hlt
        clear ha
        go_wp2_with fail
        refine region_tail 8 (by kernel_rfl) ?_
        simp only [List.take_succ_cons, List.take_zero, List.drop_succ_cons, List.drop_zero]
        repeat still_step
        refine wpStill_nil ?_
        go_wp2_with fail
        go_at_call 38
        refine (F _).mono ?_
        rintro e w2 ⟨rfl, hbel⟩
        have hbel' : Below wr.heap.size wr w2 := ⟨hbel.os, hbel.tape, hbel.output, hbel.size, hbel.block⟩
        have H2 := H'.below hbel'
        have k2 := kr.trans (Kept.of_below hbel' _)
        clear c0 b0 b1 g0 g1 F H' hbel hbel'
        go_wp2
        go_ret
        exact ⟨i', f', pos', rfl, H2, G', fun _ => hlt', hpx, k1.trans k2⟩
    · obtain rfl : i' = 0 := by omega
      go_wp2
      go_ret
      exact ⟨0, f', pos', rfl, H', G', fun h => by omega, hpx, k1.trans kr⟩
end Go.Proofs.Ythamaiibknmeeaa
