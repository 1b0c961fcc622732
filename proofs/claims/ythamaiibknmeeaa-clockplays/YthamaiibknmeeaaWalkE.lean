/-
  What 'down' and 'settle' of the program do to a heap that lies in memory. Conditions: as each theorem says them.
-/
import Derived.Test.YthamaiibknmeeaaWalkD
namespace Go.Proofs.Ythamaiibknmeeaa
open Go.RowKit Go.Lib Go.Sort Go.Maps

set_option maxRecDepth 20000 in
set_option maxHeartbeats 1000000 in
theorem down_any {w : World} {hb mb g n cap : Nat} {f : Nat → Int × Int} {c : Nat} {pos : Int → Option Nat} (H : HM w hb mb g n cap f c pos) (i : Nat) (x : Int × Int) (M : Int × Int → Prop) (G : Gap f n i x M pos) (hu : 0 < i → ¬ lt x (f ((i - 1) / 2)))
    (hM : ∀ y, M y → Wf y ∧ y.2 ≠ x.2) (hn : n ≤ 8192) (hc : c ≤ 8192) :
    Calls Try.prog 35 #[.pointer (some ⟨hb, 0, none⟩), .int .i64 i, vI x] w fun e w' => ∃ (i' : Nat) (f' : Nat → Int × Int) (pos' : Int → Option Nat), e = .returned (.int .i64 i') ∧ HM w' hb mb g n cap f' c pos' ∧ Gap f' n i' x M pos' ∧
      (0 < i' → ¬ lt x (f' ((i' - 1) / 2))) ∧ (∀ j, 0 < j → j < n → (j - 1) / 2 = i' → ¬ lt (f' j) x) ∧ pos' x.2 = pos x.2 ∧ Kept (In2 g mb) w w' := by
  unfold vI
  go_enter Try.func35, Try.ntmps35
  go_wp2_with fail
  obtain ⟨w1, hw1⟩ : ∃ w1, w1 = w.alloc (.cells #[.int .u64 x.1, .int .i64 x.2] 61) := ⟨_, rfl⟩
  have H1 : HM w1 hb mb g n cap f c pos := hw1 ▸ H.alloc _
  have bx0 : w1.cell? ⟨w.heap.size, 0, none⟩ = some (.int .u64 x.1) := by rw [hw1]; simp [go_sem]
  have bx1 : w1.cell? ⟨w.heap.size, 1, none⟩ = some (.int .i64 x.2) := by rw [hw1]; simp [go_sem]
  have bl : w.heap.size < w1.heap.size := by rw [hw1]; simp
  have nb : ¬ In2 g mb w.heap.size := by have := H.arr.lt; have := H.map.lt; unfold In2; omega
  have k1 : Kept (In2 g mb) w w1 := hw1 ▸ (Kept.refl _ w).alloc _
  rw [← hw1]
  clear hw1 H
  generalize w.heap.size = B at *
  go_loopw [1] (fun v wr => ∃ (i' : Nat) (f' : Nat → Int × Int) (pos' : Int → Option Nat), v = .int .i64 i' ∧ HM wr hb mb g n cap f' c pos' ∧ Gap f' n i' x M pos' ∧ (0 < i' → ¬ lt x (f' ((i' - 1) / 2))) ∧ pos' x.2 = pos x.2 ∧ Kept (In2 g mb) w1 wr) (fun v _ => n - (intOf v).toNat)
  case atStart => exact ⟨i, f, pos, rfl, H1, G, hu, rfl, Kept.refl _ _⟩
  case round =>
    obtain ⟨i', f', pos', rfl, H', G', hu', hpx, kr⟩ := hrel
    have hin := G'.inn
    have c0 := H'.c0
    by_cases h0 : 2 * i' + 1 < n
    · have h0' : 2 * (i' : Int) + 1 < (n : Int) := by omega
      have FB := firstBelow_any H' i' h0 hn
      go_wp2_with fail
      go_at_call 37
      refine FB.mono ?_
      rintro e w2 ⟨b, rfl, ⟨hb0, hbn, hbp, hbs⟩, hbel⟩
      have H2 := H'.below hbel
      have k2 := kr.trans (Kept.of_below hbel _)
      clear FB H' kr c0 hbel
      have c0 := H2.c0
      have i1 : (b : Int) < (n : Int) := by omega
      have b0 := (k2.cell (o := 0) bl nb).trans bx0
      have b1 := (k2.cell (o := 1) bl nb).trans bx1
      obtain ⟨g0, g1⟩ := H2.arr.cells hbn
      have F := goesFirst_any (f' b) x
      have hlti : i' < b := by omega
      by_cases hlt : lt (f' b) x
      · rw [ltYes hlt] at F
        have hMb : M (f' b) := (G'.mem _).2 ⟨b, hbn, by omega, rfl⟩
        obtain ⟨hwf, hne⟩ := hM _ hMb
        have hpb : pos' (f' b).2 = some b := (G'.at_ _ hne b).2 ⟨hbn, by omega, rfl⟩
        have G2 := G'.down hbn hb0 hbp hbs
        have hu2 : 0 < b → ¬ lt x (upd f' i' (f' b) ((b - 1) / 2)) := fun _ => by rw [hbp, upd_same]; exact lt_asymm hlt
        clear hbp hbs
        go_wp2_with fail
        refine region_tail 8 (by kernel_rfl) ?_
        simp only [List.take_succ_cons, List.take_zero, List.drop_succ_cons, List.drop_zero]
        repeat still_step
        refine wpStill_nil ?_
        go_wp2_with fail
        go_at_call 38
        refine (F _).mono ?_
        rintro e w3 ⟨rfl, hbel⟩
        have hbel' : Below w2.heap.size w2 w3 := ⟨hbel.os, hbel.tape, hbel.output, hbel.size, hbel.block⟩
        have H3 := H2.below hbel'
        have k3 := k2.trans (Kept.of_below hbel' _)
        have P := put_any H3 i' hin hn hc (f' b) hwf
        rw [hpb, cnt_some] at P
        have c03 := H3.c0
        obtain ⟨g03, g13⟩ := H3.arr.cells hbn
        clear c0 b0 b1 g0 g1 F H2 hbel hbel' H3 k2
        go_wp2_with (go_at_call 34; refine P.mono ?_; rintro e w4 ⟨rfl, H4, k4⟩)
        go_roundw
        case rel => exact ⟨b, _, _, by go_num, H4, G2, hu2, by rw [updp_other (fun e => hne e.symm)]; exact hpx, k3.trans k4⟩
        case measure => simp [intOf]; omega
      · rw [ltNo hlt] at F
        have hd : ∀ j, 0 < j → j < n → (j - 1) / 2 = i' → ¬ lt (f' j) x := fun j h1 h2 h3 => ge_trans (hbs j h1 h2 h3) hlt
        clear hbp hbs
        go_wp2_with fail
        refine region_tail 8 (by kernel_rfl) ?_
        simp only [List.take_succ_cons, List.take_zero, List.drop_succ_cons, List.drop_zero]
        repeat still_step
        refine wpStill_nil ?_
        go_wp2_with fail
        go_at_call 38
        refine (F _).mono ?_
        rintro e w3 ⟨rfl, hbel⟩
        have hbel' : Below w2.heap.size w2 w3 := ⟨hbel.os, hbel.tape, hbel.output, hbel.size, hbel.block⟩
        have H3 := H2.below hbel'
        have k3 := k2.trans (Kept.of_below hbel' _)
        clear c0 b0 b1 g0 g1 F H2 hbel hbel' k2
        go_wp2
        go_ret
        exact ⟨i', f', pos', rfl, H3, G', hu', hd, hpx, k1.trans k3⟩
    · have hd : ∀ j, 0 < j → j < n → (j - 1) / 2 = i' → ¬ lt (f' j) x := fun j h1 h2 h3 => by omega
      have h0' : ¬ 2 * (i' : Int) + 1 < (n : Int) := by omega
      go_wp2
      go_ret
      exact ⟨i', rfl, f', pos', H', G', hu', hd, hpx, k1.trans kr⟩
end Go.Proofs.Ythamaiibknmeeaa
