/-
  What 'Parse' of the program answers: the walk. Condition: the text's length is a number of its type.
-/
import Derived.Test.YtaodckojinbdfaaDoorParse
namespace Go.Proofs.YtaodckojinbdfaaDoor
open Go.RowKit

theorem parse_long (s : ByteArray) (w : World) (hs : s.size ≤ 9223372036854775807) (hl : 65536 < s.size) :
    Calls Tryd.prog 9 #[.string s] w fun e w' => ∃ v, e = .returned (.tuple #[v, errV 3 0]) ∧ CfV w.heap.size w' v cf0 ∧ Below w.heap.size w w' := by
  have e3 : errV 3 0 = .iface 61 (.agg #[.int .i64 0, .string ⟨#[]⟩, .iface 37 (.int .i64 3)]) := rfl
  have A := fun w => at_ok 0 (.inl 3) [] w 37 (.int .i64 3) rfl
  simp only [val, Base.val] at A
  have b0 : Hd (Below w.heap.size w (w.alloc (.cells #[.int .i64 0, .int .i64 0, .int .i64 0, .int .i64 0, .slice none 0 0, .slice none 0 0] 30))) := ⟨(Below.refl _ _).alloc (Nat.le_refl _) _⟩
  have g0 : Hd (Blk (w.alloc (.cells #[.int .i64 0, .int .i64 0, .int .i64 0, .int .i64 0, .slice none 0 0, .slice none 0 0] 30)) w.heap.size 30 #[.int .i64 0, .int .i64 0, .int .i64 0, .int .i64 0, .slice none 0 0, .slice none 0 0]) := ⟨Blk.new w 30 _⟩
  rw [e3]
  have hi : (65536 : Int) < (s.size : Int) := by omega
  go_enter Tryd.func9, Tryd.ntmps9
  go_wp2_with (go_at_call 16; refine (A _).mono ?_; rintro e w1 ⟨rfl, hw⟩; obtain rfl := hw.symm)
  refine bodyPost_ret (res5 _ _ w.heap.size _ _ _ _ _ _ _ rfl rfl g0.out) rfl ⟨_, rfl, cfv_zero _ _, b0.out⟩

set_option maxRecDepth 20000 in
set_option maxHeartbeats 4000000 in
theorem parse_short (s : ByteArray) (w : World) (hl : s.size ≤ 65536) :
    Calls Tryd.prog 9 #[.string s] w fun e w' => ∃ v, e = .returned (.tuple #[v, errV (goE cf0 (linesB s)) (goL cf0 0 (linesB s))]) ∧ CfV w.heap.size w' v (goC cf0 (linesB s)) ∧ Below w.heap.size w w' := by
  obtain ⟨w0, hw0⟩ : ∃ w0, w0 = (w.alloc (.cells #[.int .i64 0, .int .i64 0, .int .i64 0, .int .i64 0, .slice none 0 0, .slice none 0 0] 30)).alloc (.cells #[.int .i64 0, .int .i64 0, .int .i64 0, .int .i64 0, .slice none 0 0, .slice none 0 0] 30) := ⟨_, rfl⟩
  have b0 : Below w.heap.size w w0 := by rw [hw0]; exact ((Below.refl _ _).alloc (Nat.le_refl _) _).alloc (by simp) _
  have r0 : Blk w0 w.heap.size 30 #[.int .i64 0, .int .i64 0, .int .i64 0, .int .i64 0, .slice none 0 0, .slice none 0 0] := by
    rw [hw0]; exact (Blk.new w 30 _).kept (Kept.of_below ((Below.refl _ _).alloc (Nat.le_refl _) _) (fun _ => False)) id
  have a0 : Blk w0 (w.heap.size + 1) 30 #[.int .i64 0, .int .i64 0, .int .i64 0, .int .i64 0, .slice none 0 0, .slice none 0 0] := by
    have := Blk.new (w.alloc (.cells #[.int .i64 0, .int .i64 0, .int .i64 0, .int .i64 0, .slice none 0 0, .slice none 0 0] 30)) 30 #[.int .i64 0, .int .i64 0, .int .i64 0, .int .i64 0, .slice none 0 0, .slice none 0 0]
    rw [hw0]; simpa using this
  have K0 : Cfg (w.heap.size + 1) w0 (w.heap.size + 1) cf0 := ⟨Nat.le_refl _, _, _, [], a0, World.ownsRow_nil _ _ _ _, ⟨rfl, World.ownsRow_nil _ _ _ _, fun _ h => absurd h (Nat.not_lt_zero _)⟩, fun v h => by cases h⟩
  have LN := lines_y s w0 (by omega)
  have hsz : Hd (∀ k, (gt (linesB s) k).size ≤ 65536) := ⟨fun k => by
    rcases Nat.lt_or_ge k (linesB s).length with h | h
    · have := line_size (gt_mem h)
      omega
    · unfold gt
      rw [List.getD_eq_getElem?_getD, List.getElem?_eq_none h]
      exact Nat.zero_le _⟩
  have hlen := lines_len s
  generalize linesB s = L at *
  have hi : ¬ (65536 : Int) < (s.size : Int) := by omega
  obtain ⟨n, hn⟩ : ∃ n, n = L.length := ⟨_, rfl⟩
  rw [← hn] at LN hlen
  have HN : Hd (n = L.length) := ⟨hn⟩
  have P0 : Hd (Below w.heap.size w w0 ∧ Blk w0 w.heap.size 30 #[.int .i64 0, .int .i64 0, .int .i64 0, .int .i64 0, .slice none 0 0, .slice none 0 0] ∧ Cfg (w.heap.size + 1) w0 (w.heap.size + 1) cf0) := ⟨b0, r0, K0⟩
  have hn6 : n ≤ 65537 := by omega
  clear hn b0 r0 K0 a0 hlen
  go_enter Tryd.func9, Tryd.ntmps9
  go_wp2_with fail
  rw [← hw0]
  clear hw0
  go_at_call 17
  refine LN.mono ?_
  rintro e w1 ⟨a, c, rfl, hr, hb⟩
  have P1 : Hd (PS w w1 L a 0 cf0) := ⟨⟨P0.out.1.trans (hb.mono P0.out.1.size), P0.out.2.1.kept (Kept.of_below hb (fun _ => False)) id, P0.out.2.2.grown hb, hr.mono (Nat.zero_le _), fit0, rfl, rfl, rfl⟩⟩
  clear P0 hr hb LN
  go_wp2_with fail
  go_loopw [17] (fun i wr => ∃ (k : Nat) (C : Cf), k ≤ n ∧ i = .int .i64 k ∧ Hd (PS w wr L a k C)) (fun i _ => n - (intOf i).toNat)
  case atStart => exact ⟨0, cf0, Nat.zero_le _, rfl, P1⟩
  case round =>
    obtain ⟨k, C, hk, rfl, hP⟩ := hrel
    clear P1
    by_cases hlt : k < n
    · have hkL : k < L.length := by rw [← HN.out]; exact hlt
      obtain ⟨b, off, rfl, hbl, hcs⟩ := hP.out.row.row (by omega)
      have hcell := hcs k hkL
      have S0 := @go_step0 C L k hkL
      have S1 := @go_step1 C L k hkL
      have hx := hsz.out k
      have HKL : Hd (k < L.length) := ⟨hkL⟩
      clear hcs hkL
      generalize gt L k = x at *
      have WY := words_y x wr (by omega)
      have wl := words_len x
      have ws6 := words_sh x hx
      have wne : ∀ y ∈ wordsB x, 0 < y.size := fun y hy => (words_mem hy).1
      generalize wordsB x = ws at *
      obtain ⟨m, hm⟩ : ∃ m, m = ws.length := ⟨_, rfl⟩
      rw [← hm] at WY wl
      have HM : Hd (m = ws.length) := ⟨hm⟩
      have hm6 : m ≤ 65536 := by omega
      have HW : Hd ((∀ k, (gt ws k).size ≤ 65536) ∧ ∀ y ∈ ws, 0 < y.size) := ⟨ws6, wne⟩
      have HS : Hd _ := ⟨And.intro S0 S1⟩
      clear S0 S1 hm wl ws6 wne hx
      go_wp2_with fail
      go_at_call 18
      refine WY.mono ?_
      rintro e w2 ⟨a2, rfl, hr2, hb2⟩
      obtain ⟨w3, hw3⟩ : ∃ w3, w3 = w2.alloc (.cells #[.slice a2 m m, .pointer (some ⟨w.heap.size + 1, 0, none⟩), .int .i64 0] 58) := ⟨_, rfl⟩
      have b3 : Below wr.heap.size wr w3 := hb2.trans (by rw [hw3]; exact (Below.refl _ _).alloc hb2.size _)
      have R3 : Blk w3 w2.heap.size 58 #[.slice a2 m m, .pointer (some ⟨w.heap.size + 1, 0, none⟩), .int .i64 0] := by rw [hw3]; exact Blk.new w2 58 _
      have Y3 : RowY (w.heap.size + 1) w3 a2 ws := by
        have := (hr2.mono (B' := w.heap.size + 1) (by have := hP.out.cfg.le; have := hP.out.res.lt; omega)).below (w' := w3) (by rw [hw3]; exact (Below.refl _ _).alloc (Nat.le_refl _) _)
        exact this
      have D3 : Rd (w.heap.size + 1) w3 w2.heap.size (w.heap.size + 1) ws 0 := ⟨by have := hP.out.res.lt; have := hb2.size; omega, HW.out.1, a2, m, by rw [← HM.out]; exact R3, Y3, by rw [← HM.out]; exact Nat.le_refl _, by rw [← HM.out]; exact hm6⟩
      have C3 := hP.out.cfg.grown b3
      have LR := line_rd w3 D3 C3 hP.out.fit HW.out.2
      have P3 : Hd (PS w w3 L (some ⟨b, off, none⟩) k C) := ⟨⟨hP.out.bel.trans (b3.mono hP.out.bel.size), hP.out.res.kept (Kept.of_below b3 (fun _ => False)) id, C3, hP.out.row.below b3, hP.out.fit, hP.out.eE, hP.out.eC, hP.out.eL⟩⟩
      clear hP WY hr2 hb2 b3 R3 Y3 D3 C3
      generalize hE : lineE C ws = E at *
      generalize hC' : lineC C ws = C' at *
      have HF : Hd (E = 0 → Fit C') := ⟨fun h => by rw [← hC']; exact fit_line P3.out.fit (hE.trans h)⟩
      clear hE hC'
      go_wp2_with fail
      rw [← hw3]
      clear hw3
      generalize w2.heap.size = R at *
      go_at_call 19
      refine LR.mono ?_
      rintro e w4 ⟨rfl, T⟩
      obtain ⟨ws', D4⟩ := T.rd
      obtain ⟨ax, cx, hbx, -⟩ := D4.ex
      have d2 := hbx.cellv 2 rfl
      have bel4 : Below w.heap.size w w4 := P3.out.bel.trans (T.kt.below.mono (by omega))
      have res4 : Blk w4 w.heap.size 30 #[.int .i64 0, .int .i64 0, .int .i64 0, .int .i64 0, .slice none 0 0, .slice none 0 0] := (T.kt.below.block _ (by omega)).trans P3.out.res
      have row4 := P3.out.row.kt T.kt
      clear D4 hbx LR
      by_cases hE0 : E = 0
      · subst hE0
        have S := HS.out.1 rfl
        have P4 : Hd (PS w w4 L (some ⟨b, off, none⟩) (k + 1) C') := ⟨⟨bel4, res4, T.cfg rfl, row4, HF.out rfl, P3.out.eE.trans S.1, P3.out.eC.trans S.2.1, P3.out.eL.trans S.2.2⟩⟩
        clear T bel4 res4 row4 P3 HS S
        go_wp2_with fail
        go_roundw
        case rel => exact ⟨k + 1, C', by omega, by go_num, P4⟩
        case measure => simp [intOf]; omega
      · have e0 : (E != 0) = true := by simpa using hE0
        have S := HS.out.2 hE0
        have e3 : errV (goE cf0 L) (goL cf0 0 L) = .iface 61 (.agg #[.int .i64 ((k : Int) + 1), .string ⟨#[]⟩, .iface 37 (.int .i64 E)]) := by
          rw [P3.out.eE, P3.out.eL, S.1, S.2.2]
          unfold errV
          rw [if_neg hE0]
          rfl
        have eC : goC cf0 L = cf0 := P3.out.eC.trans S.2.1
        have A := fun w => at_ok ((k : Int) + 1) (.inl E) [] w 37 (.int .i64 E) rfl
        simp only [val, Base.val] at A
        have z0 := res4.cellv 0 rfl
        have z1 := res4.cellv 1 rfl
        have z2 := res4.cellv 2 rfl
        have z3 := res4.cellv 3 rfl
        have z4 := res4.cellv 4 rfl
        have z5 := res4.cellv 5 rfl
        have f0 := res4.frozen 0
        have f1 := res4.frozen 1
        have f2 := res4.frozen 2
        have f3 := res4.frozen 3
        have f4 := res4.frozen 4
        have f5 := res4.frozen 5
        have HR : Hd (Blk w4 w.heap.size 30 #[.int .i64 0, .int .i64 0, .int .i64 0, .int .i64 0, .slice none 0 0, .slice none 0 0] ∧ Below w.heap.size w w4 ∧ errV (goE cf0 L) (goL cf0 0 L) = .iface 61 (.agg #[.int .i64 ((k : Int) + 1), .string ⟨#[]⟩, .iface 37 (.int .i64 E)]) ∧ goC cf0 L = cf0) := ⟨res4, bel4, e3, eC⟩
        clear T bel4 res4 row4 P3 HS S e3 eC hE0
        go_wp2_with (go_at_call 16; refine (A _).mono ?_; rintro e w5 ⟨rfl, hw⟩; obtain rfl := hw.symm)
        refine bodyPost_ret (res5 _ _ w.heap.size _ _ _ _ _ _ _ rfl rfl ((((((HR.out.1.set 0 (.int .i64 0)).set 1 (.int .i64 0)).set 2 (.int .i64 0)).set 3 (.int .i64 0)).set 4 (.slice none 0 0)).set 5 (.slice none 0 0))) rfl ⟨_, by rw [HR.out.2.2.1]; rfl, by rw [HR.out.2.2.2]; exact cfv_zero _ _, ?_⟩
        exact (((((HR.out.2.1.setCell (p := ⟨w.heap.size, 0, none⟩) (Nat.le_refl _) _).setCell (p := ⟨w.heap.size, 1, none⟩) (Nat.le_refl _) _).setCell (p := ⟨w.heap.size, 2, none⟩) (Nat.le_refl _) _).setCell (p := ⟨w.heap.size, 3, none⟩) (Nat.le_refl _) _).setCell (p := ⟨w.heap.size, 4, none⟩) (Nat.le_refl _) _).setCell (p := ⟨w.heap.size, 5, none⟩) (Nat.le_refl _) _
    · obtain rfl : k = n := by omega
      have hd : L.drop k = [] := List.drop_eq_nil_of_le (by rw [← HN.out]; exact Nat.le_refl _)
      have eE : errV (goE cf0 L) (goL cf0 0 L) = .nilIface := by rw [hP.out.eE, hd]; rfl
      have eC : goC cf0 L = C := by rw [hP.out.eC, hd]; rfl
      obtain ⟨vL, vS, V, hA, hL, hS, -⟩ := hP.out.cfg.ex
      have a0 := hA.cellv 0 rfl
      have a1 := hA.cellv 1 rfl
      have a2 := hA.cellv 2 rfl
      have a3 := hA.cellv 3 rfl
      have a4 := hA.cellv 4 rfl
      have a5 := hA.cellv 5 rfl
      have res4 := hP.out.res
      have z0 := res4.cellv 0 rfl
      have z1 := res4.cellv 1 rfl
      have z2 := res4.cellv 2 rfl
      have z3 := res4.cellv 3 rfl
      have z4 := res4.cellv 4 rfl
      have z5 := res4.cellv 5 rfl
      have f0 := res4.frozen 0
      have f1 := res4.frozen 1
      have f2 := res4.frozen 2
      have f3 := res4.frozen 3
      have f4 := res4.frozen 4
      have f5 := res4.frozen 5
      obtain ⟨aL, cL, rfl⟩ := own_form hL
      obtain ⟨aS, cS, rfl⟩ := own_form hS.own
      have HR : Hd (PS w wr L a k C ∧ LvOwn (w.heap.size + 1) wr (.slice aL C.levels.length cL) C.levels ∧ ScOwn (w.heap.size + 1) wr (.slice aS C.schemas.length cS) C.schemas V) := ⟨hP.out, hL, hS⟩
      have HQ : Hd (errV (goE cf0 L) (goL cf0 0 L) = .nilIface ∧ goC cf0 L = C) := ⟨eE, eC⟩
      clear hP hA hL hS res4 eE eC hd
      go_wp2_with fail
      have B6 := ((((((HR.out.1.res.set 0 (.int .i64 C.total)).set 1 (.int .i64 C.period)).set 2 (.int .i64 C.perSeat)).set 3 (.int .i64 C.most)).set 4 (.slice aL C.levels.length cL)).set 5 (.slice aS C.schemas.length cS))
      have K6 : Kept (fun k => k = w.heap.size) wr ((((((wr.setCell ⟨w.heap.size, 0, none⟩ (.int .i64 C.total)).setCell ⟨w.heap.size, 1, none⟩ (.int .i64 C.period)).setCell ⟨w.heap.size, 2, none⟩ (.int .i64 C.perSeat)).setCell ⟨w.heap.size, 3, none⟩ (.int .i64 C.most)).setCell ⟨w.heap.size, 4, none⟩ (.slice aL C.levels.length cL)).setCell ⟨w.heap.size, 5, none⟩ (.slice aS C.schemas.length cS)) :=
        ((((((Kept.refl (fun k => k = w.heap.size) wr).setCell ⟨w.heap.size, 0, none⟩ _ (.inl rfl)).setCell ⟨w.heap.size, 1, none⟩ _ (.inl rfl)).setCell ⟨w.heap.size, 2, none⟩ _ (.inl rfl)).setCell ⟨w.heap.size, 3, none⟩ _ (.inl rfl)).setCell ⟨w.heap.size, 4, none⟩ _ (.inl rfl)).setCell ⟨w.heap.size, 5, none⟩ _ (.inl rfl)
      have o : ∀ t, 30 ≠ t → Off t (fun k => k = w.heap.size) wr := fun t ht => off_blk HR.out.1.res ht
      refine bodyPost_ret (res5 _ _ w.heap.size _ _ _ _ _ _ _ rfl rfl B6) rfl ⟨_, by rw [HQ.out.1]; rfl, ?_, ?_⟩
      · rw [HQ.out.2]
        have L6 := HR.out.2.1.off K6 (o 46 (by decide))
        have S6 := HR.out.2.2.off K6 (o 9 (by decide)) (o 49 (by decide)) (o 51 (by decide))
        exact ⟨_, _, V, rfl, owns_mono L6 (Nat.le_succ _), S6.mono (Nat.le_succ _)⟩
      · exact HR.out.1.bel.trans (K6.below (Nat.le_of_lt HR.out.1.res.lt) (fun j hj => by rw [hj]; exact Nat.le_refl _))

theorem parse_ok (s : ByteArray) (w : World) (hs : s.size ≤ 9223372036854775807) :
    Calls Tryd.prog 9 #[.string s] w fun e w' => ∃ v, e = .returned (.tuple #[v, errV (parE s) (parL s)]) ∧ CfV w.heap.size w' v (parC s) ∧ Below w.heap.size w w' := by
  by_cases h : 65536 < s.size
  · have := parse_long s w hs h
    unfold parE parL parC
    rw [if_pos h, if_pos h, if_pos h]
    exact this
  · have := parse_short s w (by omega)
    unfold parE parL parC
    rw [if_neg h, if_neg h, if_neg h]
    exact this

end Go.Proofs.YtaodckojinbdfaaDoor
