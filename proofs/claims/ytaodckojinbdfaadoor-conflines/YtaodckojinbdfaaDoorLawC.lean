/-
  'ConfCut': the walk. Conditions: the frame's; errorType holds what its text lays.
-/
import Derived.Test.YtaodckojinbdfaaDoorAwake
import Derived.Test.YtaodckojinbdfaaDoorMathQ
import Derived.Test.YtaodckojinbdfaaDoorRefA
namespace Go.Proofs.YtaodckojinbdfaaDoor
open Go.RowKit

theorem wf_i {x : Int} (h : (Lit.int .i64 x).wf = true) : -9223372036854775808 ≤ x ∧ x ≤ 9223372036854775807 := by
  simp [Lit.wf, IntKind.min, IntKind.max, IntKind.bits, IntKind.signed] at h; omega


/-- An error's number and line. -/
theorem code_err (e : Int) (l : Nat) (w : World) (he : ET w) (h0 : e ≠ 0) : Calls Tryd.prog 12 #[errV e l] w fun r w' => r = .returned (.int .i64 e) ∧ Below w.heap.size w w' := by
  have h := code_ok (.inl e) [⟨(l : Int), ⟨#[]⟩⟩] w he
  unfold errV
  rw [if_neg h0]
  exact h
theorem line_err (e : Int) (l : Nat) (w : World) (he : ET w) (h0 : e ≠ 0) : Calls Tryd.prog 11 #[errV e l] w fun r w' => r = .returned (.int .i64 (l : Int)) ∧ Below w.heap.size w w' := by
  have h := line_ok (.inl e) [⟨(l : Int), ⟨#[]⟩⟩] w he
  have hn : (near (fun x _ => x != 0) [⟨(l : Int), ⟨#[]⟩⟩]).line = (l : Int) := by
    unfold near
    by_cases hl : (l : Int) = 0
    · rw [if_neg (by simp [hl])]
      unfold near
      exact hl.symm
    · rw [if_pos (by simpa using hl)]
  rw [hn] at h
  unfold errV
  rw [if_neg h0]
  exact h
theorem err_some {e : Int} (l : Nat) (h0 : e ≠ 0) : ∃ u, errV e l = .iface 61 u := ⟨.agg #[.int .i64 (l : Int), .string ⟨#[]⟩, .iface 37 (.int .i64 e)], by unfold errV; rw [if_neg h0]; rfl⟩
theorem err_none (l : Nat) : errV 0 l = .nilIface := rfl

/-- Parse's answer, its configuration laid down. -/
theorem parse_some (s : ByteArray) (hs : s.size ≤ 9223372036854775807) (w : World) :
    Calls Tryd.prog 9 #[.string s] w fun e w' => ∃ aL nL cL aS nS cS a b c d, e = .returned (.tuple #[.agg #[.int .i64 a, .int .i64 b, .int .i64 c, .int .i64 d, .slice aL nL cL, .slice aS nS cS], errV (parE s) (parL s)]) ∧
      CfV w.heap.size w' (.agg #[.int .i64 a, .int .i64 b, .int .i64 c, .int .i64 d, .slice aL nL cL, .slice aS nS cS]) (parC s) ∧ Below w.heap.size w w' := by
  refine (parse_ok s w hs).mono ?_
  rintro e w' ⟨v, rfl, ⟨vL, vS, V, rfl, hL, hS⟩, hb⟩
  obtain ⟨aL, cL, rfl⟩ := own_form hL
  obtain ⟨aS, cS, rfl⟩ := own_form hS.own
  exact ⟨_, _, _, _, _, _, _, _, _, _, rfl, ⟨_, _, V, rfl, hL, hS⟩, hb⟩

set_option maxRecDepth 20000 in
theorem cut_all (s : ByteArray) (k : Int) (w : World) (hs : s.size ≤ maxLen) (hk : (Lit.int .i64 k).wf = true) (he : ET w) :
    Calls Tryd.prog 4 #[.string s, .int .i64 k] w fun e w' => e = .returned (.bool true) ∧ Below w.heap.size w w' := by
  have AW := awake_any w
  obtain ⟨k1, k2⟩ := wf_i hk
  clear hk
  have hsz : s.size ≤ 9223372036854775807 := by unfold maxLen at hs; omega
  clear hs
  by_cases h8 : 8000 < s.size
  · clear he
    go_enter Tryd.func4, Tryd.ntmps4
    go_wp2_with (go_at_call 7; refine AW.mono ?_; rintro e w1 ⟨rfl, b1⟩)
    go_ret
    exact ⟨rfl, b1⟩
  have hlen := lines_len s
  have hglen := glen_lines s
  have hclean := lines_clean s
  have hPe : parE s = goE cf0 (linesB s) := by unfold parE; rw [if_neg (by omega)]
  have hPl : parL s = goL cf0 0 (linesB s) := by unfold parL; rw [if_neg (by omega)]
  have RL := fun w => rlines_ok s w (by omega)
  have PT := parse_some s (by omega)
  rw [hPe, hPl] at PT
  generalize linesB s = L at *
  obtain ⟨n, hn⟩ : ∃ n, n = L.length := ⟨_, rfl⟩
  rw [← hn] at RL hlen
  have HN : Hd (n = L.length) := ⟨hn⟩
  have HE : Hd (ET w) := ⟨he⟩
  clear hn hPe hPl he
  by_cases hr : k < 0 ∨ (n : Int) < k
  · go_enter Tryd.func4, Tryd.ntmps4
    rcases hr with hr | hr
    · go_wp2_with (first
        | (go_at_call 7; refine AW.mono ?_; rintro e w1 ⟨rfl, b1⟩)
        | (go_at_call 8; refine (RL _).mono ?_; rintro e w2 ⟨a, c, rfl, hrow, b2⟩))
      go_ret
      exact ⟨rfl, b1.trans (b2.mono b1.size)⟩
    · have hk0 : ¬ k < 0 := by omega
      go_wp2_with (first
        | (go_at_call 7; refine AW.mono ?_; rintro e w1 ⟨rfl, b1⟩)
        | (go_at_call 8; refine (RL _).mono ?_; rintro e w2 ⟨a, c, rfl, hrow, b2⟩))
      go_ret
      exact ⟨rfl, b1.trans (b2.mono b1.size)⟩
  obtain ⟨m, rfl⟩ : ∃ m : Nat, k = m := ⟨k.toNat, by omega⟩
  have hmn : m ≤ n := by omega
  have hgs : Hd (∀ j, (glue (L.take j)).size ≤ 8001) := ⟨fun j => by rw [glue_size]; have := glen_take L j; omega⟩
  have hls : Hd (∀ j, j < n → (gt L j).size ≤ 8001) := ⟨fun j hj => by
    have h1 := glue_take (L := L) (k := j) (by rw [← HN.out]; exact hj)
    have h2 := hgs.out (j + 1)
    rw [h1, cat_size, cat_size] at h2
    omega⟩
  have hpart : linesB (glue (L.take m)) = L.take m := lines_glue fun x hx => hclean x (List.mem_of_mem_take hx)
  have hpsz := hgs.out m
  have qE : parE (glue (L.take m)) = goE cf0 (L.take m) := by unfold parE; rw [if_neg (by omega), hpart]
  have qL : parL (glue (L.take m)) = goL cf0 0 (L.take m) := by unfold parL; rw [if_neg (by omega), hpart]
  have PP := parse_some (glue (L.take m)) (by omega)
  rw [qE, qL] at PP
  have F0 := go_take L cf0 m
  have F1 := go_far L cf0 0 m
  have F2 := go_near L cf0 0 m
  rw [Nat.zero_add] at F1 F2
  have HG : Hd (∀ j, j < n → glue (L.take (j + 1)) = glue (L.take j) ++ (gt L j ++ ⟨#[10]⟩)) := ⟨fun j hj => glue_take (by rw [← HN.out]; exact hj)⟩
  have HG0 : Hd (glue (L.take 0) = ⟨#[]⟩) := ⟨rfl⟩
  have hn8 : n ≤ 8001 := by omega
  clear hclean hglen hlen hpart qE qL hpsz hr k1 k2
  generalize goE cf0 (L.take m) = E2 at *
  generalize goL cf0 0 (L.take m) = l2 at *
  generalize goE cf0 L = E1 at *
  generalize goL cf0 0 L = l1 at *
  generalize parC s = C1 at *
  generalize hGm : parC (glue (L.take m)) = C2 at PP
  clear hGm
  have HF : Hd ((E1 = 0 → E2 = 0) ∧ (E1 ≠ 0 → m < l1 → E2 = 0) ∧ (E1 ≠ 0 → l1 ≤ m → E2 = E1 ∧ l2 = l1)) := ⟨F0, F1, F2⟩
  clear F0 F1 F2
  obtain ⟨pm, hpm⟩ : ∃ pm, pm = glue (L.take m) := ⟨_, rfl⟩
  have HPM : Hd (pm = glue (L.take m)) := ⟨hpm⟩
  rw [← hpm] at PP
  clear hpm
  go_enter Tryd.func4, Tryd.ntmps4
  go_wp2_with (first
    | (go_at_call 7; refine AW.mono ?_; rintro e w1 ⟨rfl, b1⟩)
    | (go_at_call 8; refine (RL _).mono ?_; rintro e w2 ⟨a, c, rfl, hrow, b2⟩))
  have B2 : Hd (Below w.heap.size w w2) := ⟨b1.trans (b2.mono b1.size)⟩
  have ROW : Hd (RowL w2 a L) := ⟨hrow⟩
  clear b1 b2 hrow AW RL
  go_loop [6, 7] (fun x i => ∃ j : Nat, j ≤ m ∧ i = .int .i64 j ∧ x = .string (glue (L.take j))) (fun _ i => m - (intOf i).toNat)
  case atStart => exact ⟨0, Nat.zero_le _, rfl, by rw [HG0.out]⟩
  case round =>
    obtain ⟨j, hj, rfl, rfl⟩ := hrel
    by_cases hlt : j < m
    · have hjn : j < n := by omega
      obtain ⟨b, off, rfl, hbl, hcs⟩ := ROW.out (by rw [← HN.out]; omega)
      have hcell := hcs j (by rw [← HN.out]; exact hjn)
      have e1 := HG.out j hjn
      have g1 := hgs.out j
      have g2 := hls.out j hjn
      have EJ : Hd (_ = _) := ⟨e1⟩
      have HJ : Hd (j < m) := ⟨hlt⟩
      clear hcs e1 PT PP
      generalize glue (L.take j) = p at *
      generalize gt L j = x at *
      have hb1 : (⟨#[10]⟩ : ByteArray).size = 1 := rfl
      go_wp2_with fail
      go_round
      case rel => exact ⟨j + 1, HJ.out, by go_num, by rw [EJ.out]⟩
      case measure => have := HJ.out; simp [intOf]; omega
    · obtain rfl : m = j := by omega
      rw [← HPM.out]
      clear HG HG0 hls HPM
      have E2' := HE.out.stays B2.out
      go_wp2_with fail
      go_at_call 9
      refine (PT _).mono ?_
      rintro e w3 ⟨aL, nL, cL, aS, nS, cS, x0, x1, x2, x3, rfl, -, b3⟩
      clear PT
      obtain ⟨w4, hw4⟩ : ∃ w4, w4 = w3.alloc (.cells #[.int .i64 x0, .int .i64 x1, .int .i64 x2, .int .i64 x3, .slice aL nL cL, .slice aS nS cS] 30) := ⟨_, rfl⟩
      have B4 : Hd (Below w.heap.size w w4) := ⟨by rw [hw4]; exact (B2.out.trans (b3.mono B2.out.size)).alloc (Nat.le_trans B2.out.size b3.size) _⟩
      clear b3
      generalize hv1 : errV E1 l1 = v1
      go_wp2_with fail
      rw [← hw4]
      clear hw4
      go_at_call 9
      refine (PP _).mono ?_
      rintro e w5 ⟨aL', nL', cL', aS', nS', cS', y0, y1, y2, y3, rfl, -, b5⟩
      clear PP
      generalize hv2 : errV E2 l2 = v2
      have B6 : Hd (Below w.heap.size w (w5.alloc (.cells #[.int .i64 y0, .int .i64 y1, .int .i64 y2, .int .i64 y3, .slice aL' nL' cL', .slice aS' nS' cS'] 30))) := ⟨(B4.out.trans (b5.mono B4.out.size)).alloc (Nat.le_trans B4.out.size b5.size) _⟩
      clear b5 B4
      by_cases h1 : E1 = 0
      · subst h1
        obtain rfl := HF.out.1 rfl
        obtain rfl : v1 = .nilIface := hv1.symm
        obtain rfl : v2 = .nilIface := hv2.symm
        clear hv1 hv2
        go_wp2_with fail
        go_ret
        exact ⟨rfl, B6.out⟩
      · obtain ⟨u1, hu1⟩ := err_some l1 h1
        have LE := line_err E1 l1
        have CE := code_err E1 l1
        by_cases hlm : m < l1
        · obtain rfl := HF.out.2.1 h1 hlm
          obtain rfl : v2 = .nilIface := hv2.symm
          rw [hv1] at LE CE
          obtain rfl : v1 = .iface 61 u1 := hv1.symm.trans hu1
          have LE' := fun w h => LE w h h1
          have hml : (m : Int) < (l1 : Int) := by omega
          clear hv1 hv2 hu1 LE CE
          go_wp2_with (go_at_call 11; refine (LE' _ (HE.out.stays B6.out)).mono ?_; rintro e w7 ⟨rfl, b7⟩)
          go_ret
          exact ⟨rfl, B6.out.trans (b7.mono B6.out.size)⟩
        · obtain ⟨rfl, rfl⟩ := HF.out.2.2 h1 (by omega)
          obtain rfl : v1 = v2 := hv1.symm.trans hv2
          rw [hv1] at LE CE
          obtain rfl : v1 = .iface 61 u1 := hv1.symm.trans hu1
          have LE' := fun w h => LE w h h1
          have CE' := fun w h => CE w h h1
          have hml : ¬ (m : Int) < (l2 : Int) := by omega
          clear hv1 hv2 hu1 LE CE
          have EW : ∀ w', Below w.heap.size w w' → ET w' := fun w' h => HE.out.stays h
          go_wp2_with fail
          go_at_call 11
          refine (LE' _ (EW _ B6.out)).mono ?_
          rintro e w7 ⟨rfl, b7⟩
          have B7 : Hd (Below w.heap.size w w7) := ⟨B6.out.trans (b7.mono B6.out.size)⟩
          clear b7 B6
          go_wp2_with fail
          go_at_call 12
          refine (CE' _ (EW _ B7.out)).mono ?_
          rintro e w8 ⟨rfl, b8⟩
          have B8 : Hd (Below w.heap.size w w8) := ⟨B7.out.trans (b8.mono B7.out.size)⟩
          clear b8 B7
          go_wp2_with fail
          go_at_call 12
          refine (CE' _ (EW _ B8.out)).mono ?_
          rintro e w9 ⟨rfl, b9⟩
          have B9 : Hd (Below w.heap.size w w9) := ⟨B8.out.trans (b9.mono B8.out.size)⟩
          clear b9 B8
          go_wp2_with fail
          go_at_call 11
          refine (LE' _ (EW _ B9.out)).mono ?_
          rintro e w10 ⟨rfl, b10⟩
          have B10 : Hd (Below w.heap.size w w10) := ⟨B9.out.trans (b10.mono B9.out.size)⟩
          clear b10 B9
          go_wp2_with fail
          go_at_call 11
          refine (LE' _ (EW _ B10.out)).mono ?_
          rintro e w11 ⟨rfl, b11⟩
          have B11 : Hd (Below w.heap.size w w11) := ⟨B10.out.trans (b11.mono B10.out.size)⟩
          clear b11 B10
          go_wp2_with fail
          go_ret
          exact ⟨rfl, B11.out⟩

end Go.Proofs.YtaodckojinbdfaaDoor
