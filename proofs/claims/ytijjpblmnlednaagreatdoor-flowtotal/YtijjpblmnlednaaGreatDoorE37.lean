/-
  The line of a level, as 'levelLine' of 'print' answers it.
-/
import Derived.Test.YtijjpblmnlednaaGreatDoorE36
import Derived.Test.YtijjpblmnlednaaGreatDoorE13
namespace Go.Proofs.YtijjpblmnlednaaGreatDoor
open Go.RowKit Go.Lib
theorem own_lit (w : World) (L : List ByteArray) (hl : L.length ≤ 100) : OwnT w.heap.size (w.alloc (.cells (L.map Value.string).toArray 9)) (.slice (some ⟨w.heap.size, 0, none⟩) L.length L.length) L := by
  have n := Blk.new w 9 (L.map Value.string).toArray
  refine ⟨by simp, .inr ⟨w.heap.size, L.length, _, rfl, Nat.le_refl _, n, Nat.le_refl _, by unfold maxLen; omega, by simp, ?_⟩⟩
  rw [Nat.mul_one]
  exact List.take_of_length_le (by simp)
theorem ones_str (L : List ByteArray) : ∀ u ∈ L.map Value.string, u.oneCell' = true := fun u hu => by
  obtain ⟨x, _, rfl⟩ := List.mem_map.1 hu
  rfl
theorem OwnT.puts {B : Nat} {w : World} {v : Value} {L M : List ByteArray} (h : w.ownsRow B 9 1 v (L.length + M.length) (L.map Value.string ++ M.map Value.string)) : OwnT B w v (L ++ M) := by
  unfold OwnT
  rw [List.length_append, List.map_append]
  exact h
theorem OwnT.shape2P {B : Nat} {w : World} {v : Value} {L : List ByteArray} (h : OwnT B w v L) : ∃ a c, v = .slice a L.length c ∧ RowL w a L ∧ L.length ≤ c := by
  obtain ⟨a, c, e, hr⟩ := h.shape
  refine ⟨a, c, e, hr, ?_⟩
  rcases h.2 with ⟨e2, h0⟩ | ⟨g, cap, cur, e2, hb, hg, hle, rest⟩
  · omega
  · rw [e] at e2
    injection e2 with _ _ e3
    omega
/-- A line out of a list of one's own. -/
theorem line_own {B : Nat} {w : World} {v : Value} {ws : List ByteArray} (h : OwnT B w v ws) (hne : ws ≠ []) (hl : ws.length ≤ 100) (hs : ∀ x ∈ ws, x.size ≤ 1000) : Calls Tryz.prog 88 #[v] w fun e w' => e = .returned (.string (lnB ws)) ∧ Below w.heap.size w w' := by
  obtain ⟨a, c, rfl, hr, hc⟩ := h.shape2P
  have := line_bound hs
  exact line_ok a c ws w hr hc (by omega) hne (by omega)
theorem name_shortP {x : ByteArray} (h : isName x = true) : x.size ≤ 1000 := by
  unfold isName at h
  simp only [Bool.and_eq_true, decide_eq_true_eq] at h
  omega
theorem bor_short (n : Int) (h : n ≤ 9223372036854775807) : (borW n).size ≤ 1000 := by
  unfold borW
  split
  · decide
  · exact dig_short n h

set_option maxRecDepth 20000 in
set_option maxHeartbeats 8000000 in
theorem levelLine_ok (l : Lv) (w : World) (h : lvOk l = true) (hT : Tab w) :
    Calls Tryz.prog 42 #[.agg (lvA l)] w fun e w' => e = .returned (.string (lnB (lvWs l))) ∧ Below w.heap.size w w' := by
  obtain ⟨hn, hk⟩ := lvOk_iff.1 h
  have ns := name_shortP hn
  obtain ⟨i0, hi, hz0, hz1, hz2⟩ := info_parts info9
  have hT0 : Hd (Tab w) := ⟨hT⟩
  have DG : Hd (∀ n : Int, -1 ≤ n → n ≤ 1000000 → ∀ W, Below w.heap.size w W → Calls Tryz.prog 89 #[.int .i64 n] W fun e w' => e = .returned (.string (digB n)) ∧ Below W.heap.size W w') := ⟨fun n h1 h2 W hW => digits_ok n (by omega) (by omega) W (hT0.out.stays hW)⟩
  have BO : Hd (∀ n : Int, -1 ≤ n → n ≤ 1000000 → ∀ W, Below w.heap.size w W → Calls Tryz.prog 90 #[.int .i64 n] W fun e w' => e = .returned (.string (borW n)) ∧ Below W.heap.size W w') := ⟨fun n h1 h2 W hW => borrow_ok n (by omega) (by omega) W (hT0.out.stays hW)⟩
  have AL := alloc_below w (.cells (lvA l) 45)
  have NB := Blk.new w 45 (lvA l)
  show Calls Tryz.prog 42 #[.agg #[.string l.name, .int .i64 l.kind, .int .i64 l.shares, .int .i64 l.lend, .int .i64 l.borrow, .int .i64 l.queues, .int .i64 l.hand, .int .i64 l.length, .int .i64 l.wait, .int .i64 l.guess]] w _
  unfold lvA at AL NB
  clear h hn hT
  go_enter Tryz.func42, Tryz.ntmps42
  go_upto_region 1 with fail
  generalize w.alloc _ = w1 at *
  have c0 := NB.cellv (v := .string l.name) 0 rfl
  go_upto_region 2 with fail
  generalize hwa : w1.alloc _ = wa
  have AL2 : Below w1.heap.size w1 wa := by rw [← hwa]; exact alloc_below _ _
  have S1 : Hd (Blk wa w.heap.size 45 #[.string l.name, .int .i64 l.kind, .int .i64 l.shares, .int .i64 l.lend, .int .i64 l.borrow, .int .i64 l.queues, .int .i64 l.hand, .int .i64 l.length, .int .i64 l.wait, .int .i64 l.guess] ∧ OwnT w.heap.size wa (.slice (some ⟨w1.heap.size, 0, none⟩) 2 2) [tLevel, l.name] ∧ Below w.heap.size w wa) := ⟨NB.kept (Kept.of_below AL2 (fun _ => False)) id, owns_mono (by rw [← hwa]; exact own_lit w1 [tLevel, l.name] (by simp)) AL.size, AL.trans (AL2.mono AL.size)⟩
  clear hwa AL2 AL NB c0
  generalize w1.heap.size = g1 at *
  have c1 := S1.out.1.cellv (v := .int .i64 l.kind) 1 rfl
  have sz1 := S1.out.2.2.size
  rcases hk with ⟨k1, -⟩ | ⟨k2, sh, -⟩ | ⟨k3, sh, ln⟩
  · have HW : Hd (lvWs l = [tLevel, l.name] ++ [tExempt]) := ⟨by unfold lvWs; rw [if_pos k1]; rfl⟩
    rw [k1] at c1
    generalize hws : lnB (lvWs l) = R
    have HR : Hd (lnB ([tLevel, l.name] ++ [tExempt]) = R) := ⟨by rw [← HW.out]; exact hws⟩
    have HL : Hd (lnB (lvWs l) = R) := ⟨hws⟩
    clear hws k1 HW
    go_wp2_with (at_builtin; refine wpList_append_own _ rfl _ _ 26 rfl w.heap.size 9 i0 (.string ByteArray.empty) 1 16 Tryz.underlying26 hi hz0 hz1 hz2 rfl (by decide) _ _ _ rfl (S1.out.2.1.alloc _) ⟨wa.heap.size, 0, none⟩ 1 1 [.string tExempt] rfl rfl (one_newT _ _) (one_cellT _) (by unfold maxLen; simp) (by simp) (by simp; omega) ?_; intro vd wd hown hgrow _)
    have O2 : OwnT w.heap.size wd vd ([tLevel, l.name] ++ [tExempt]) := OwnT.put hown
    have B2 : Hd (Below w.heap.size w wd) := ⟨(S1.out.2.2.alloc sz1 _).grown hgrow (by simp; omega) (fun j hj => (S1.out.2.1.lt j hj).1)⟩
    have LN := line_own O2 (by simp) (by simp) (fun x hx => by
      simp only [List.mem_append, List.mem_cons, List.not_mem_nil, or_false] at hx
      rcases hx with (rfl | rfl) | rfl
      · decide
      · exact ns
      · decide)
    rw [HR.out] at LN
    go_at_call 88
    refine LN.mono ?_
    rintro e w5 ⟨rfl, b5⟩
    go_wp2_with fail
    go_ret
    exact ⟨by rw [HL.out]; rfl, B2.out.trans (b5.mono B2.out.size)⟩
  · obtain ⟨⟨s1, s2⟩, ⟨s3, s4⟩, s5⟩ := sharesOk_iff.1 sh
    have HW : Hd (lvWs l = [tLevel, l.name] ++ [digB l.shares, digB l.lend, borW l.borrow, tReject]) := ⟨by unfold lvWs; rw [if_neg (by omega), if_pos k2]; rfl⟩
    have bo : -1 ≤ l.borrow ∧ l.borrow ≤ 1000000 := by rcases s5 with h | h <;> omega
    rw [k2] at c1
    have D0 : Hd (∀ W, Below w.heap.size w W → _) := ⟨DG.out l.shares (by omega) (by omega)⟩
    have D1 : Hd (∀ W, Below w.heap.size w W → _) := ⟨DG.out l.lend (by omega) (by omega)⟩
    have D2 : Hd (∀ W, Below w.heap.size w W → _) := ⟨BO.out l.borrow (by omega) (by omega)⟩
    have SH : Hd (∀ x ∈ [tLevel, l.name] ++ [digB l.shares, digB l.lend, borW l.borrow, tReject], x.size ≤ 1000) := ⟨fun x hx => by
      simp only [List.mem_append, List.mem_cons, List.not_mem_nil, or_false] at hx
      rcases hx with (rfl | rfl) | rfl | rfl | rfl | rfl <;> first | exact ns | (decide) | exact dig_short _ (by omega) | exact bor_short _ (by omega)⟩
    generalize hws : lnB (lvWs l) = R
    have HR : Hd (lnB ([tLevel, l.name] ++ [digB l.shares, digB l.lend, borW l.borrow, tReject]) = R) := ⟨by rw [← HW.out]; exact hws⟩
    have HL : Hd (lnB (lvWs l) = R) := ⟨hws⟩
    clear hws HW sh s1 s2 s3 s4 s5 bo BO DG k2
    generalize digB l.shares = x0 at *
    generalize digB l.lend = x1 at *
    generalize borW l.borrow = x2 at *
    go_wp2_with fail
    have DR : Below wa.heap.size wa wa.drew := ⟨rfl, rfl, rfl, Nat.le_refl _, fun _ _ => rfl⟩
    have A0 := S1.out.1.kept (Kept.of_below DR (fun _ => False)) id
    have B0 : Below w.heap.size w wa.drew := S1.out.2.2.trans (DR.mono S1.out.2.2.size)
    have HO0 : Hd (OwnT w.heap.size wa.drew (.slice (some ⟨g1, 0, none⟩) 2 2) [tLevel, l.name]) := ⟨own_goneP S1.out.2.1 DR⟩
    refine AnyG.start (T := fun w' => Blk w' w.heap.size 45 #[.string l.name, .int .i64 l.kind, .int .i64 l.shares, .int .i64 l.lend, .int .i64 l.borrow, .int .i64 l.queues, .int .i64 l.hand, .int .i64 l.length, .int .i64 l.wait, .int .i64 l.guess]) (U := fun _ => True) (j0 := 100) (by kernel_rfl) ?_
    clear DR c1 S1 sz1
    generalize wa.drew = w0 at *
    refine .tq 0 16 A0 ?_; simp only [tkA, tkB, tkC]
    refine .tq 1 17 A0 ?_; simp only [tkA, tkB, tkC]
    refine .tq 2 18 A0 ?_ (hy := fun w hSw => by have s4 := hSw.cellv (v := .int .i64 l.shares) 2 rfl; go_simp; rfl); simp only [tkA, tkB, tkC]
    refine .tq 4 20 A0 ?_; simp only [tkA, tkB, tkC]
    refine .tq 5 21 A0 ?_ (hy := fun w hSw => by have s4 := hSw.cellv (v := .int .i64 l.lend) 3 rfl; go_simp; rfl); simp only [tkA, tkB, tkC]
    refine .tq 7 23 A0 ?_; simp only [tkA, tkB, tkC]
    refine .tq 8 24 A0 ?_ (hy := fun w hSw => by have s4 := hSw.cellv (v := .int .i64 l.borrow) 4 rfl; go_simp; rfl); simp only [tkA, tkB, tkC]
    refine AnyG.ready (rs := [3]) (by kernel_rfl) (by simp) ?_
    refine AllG.cons rfl (fun K hK => ?_) AllG.nil
    go_simp
    refine (D0.out w0 B0).mono ?_
    rintro e wk1 ⟨rfl, b1⟩
    have HO1 : Hd (OwnT w.heap.size wk1 (.slice (some ⟨g1, 0, none⟩) 2 2) [tLevel, l.name]) := ⟨own_goneP HO0.out b1⟩
    have Ak1 := A0.kept (Kept.of_below b1 (fun _ => False)) id
    have Bk1 : Below w.heap.size w wk1 := B0.trans (b1.mono B0.size)
    refine hK.out _ _ ⟨Ak1, fun _ => trivial⟩ ?_
    clear hK K b1 A0 B0 HO0
    refine AnyG.ready (rs := [6]) (by kernel_rfl) (by simp) ?_
    refine AllG.cons rfl (fun K hK => ?_) AllG.nil
    go_simp
    refine (D1.out wk1 Bk1).mono ?_
    rintro e wk2 ⟨rfl, b2⟩
    have HO2 : Hd (OwnT w.heap.size wk2 (.slice (some ⟨g1, 0, none⟩) 2 2) [tLevel, l.name]) := ⟨own_goneP HO1.out b2⟩
    have Ak2 := Ak1.kept (Kept.of_below b2 (fun _ => False)) id
    have Bk2 : Below w.heap.size w wk2 := Bk1.trans (b2.mono Bk1.size)
    refine hK.out _ _ ⟨Ak2, fun _ => trivial⟩ ?_
    clear hK K b2 Ak1 Bk1 HO1
    refine AnyG.ready (rs := [9]) (by kernel_rfl) (by simp) ?_
    refine AllG.cons rfl (fun K hK => ?_) AllG.nil
    go_simp
    refine (D2.out wk2 Bk2).mono ?_
    rintro e wk3 ⟨rfl, b3⟩
    have HO3 : Hd (OwnT w.heap.size wk3 (.slice (some ⟨g1, 0, none⟩) 2 2) [tLevel, l.name]) := ⟨own_goneP HO2.out b3⟩
    have Ak3 := Ak2.kept (Kept.of_below b3 (fun _ => False)) id
    have Bk3 : Below w.heap.size w wk3 := Bk2.trans (b3.mono Bk2.size)
    refine hK.out _ _ ⟨Ak3, fun _ => trivial⟩ ?_
    clear hK K b3 Ak2 Bk2 HO2
    refine AnyG.ready (rs := [10]) (by kernel_rfl) (by simp) ?_
    refine AllG.cons rfl (fun K hK => ?_) AllG.nil
    go_simp
    have AL4 := alloc_below wk3 (.cells #[.string x0, .string x1, .string x2, .string ⟨#[114, 101, 106, 101, 99, 116]⟩] 9)
    have Ak4 := Ak3.kept (Kept.of_below AL4 (fun _ => False)) id
    have Bk4 : Below w.heap.size w (wk3.alloc (.cells #[.string x0, .string x1, .string x2, .string ⟨#[114, 101, 106, 101, 99, 116]⟩] 9)) := Bk3.trans (AL4.mono Bk3.size)
    have HO99 : Hd (OwnT w.heap.size (wk3.alloc (.cells #[.string x0, .string x1, .string x2, .string ⟨#[114, 101, 106, 101, 99, 116]⟩] 9)) (.slice (some ⟨g1, 0, none⟩) 2 2) [tLevel, l.name]) := ⟨own_goneP HO3.out AL4⟩
    have NW := World.news_of_block (Blk.new wk3 9 #[.string x0, .string x1, .string x2, .string ⟨#[114, 101, 106, 101, 99, 116]⟩])
    refine hK.out _ _ ⟨Ak4, fun _ => trivial⟩ ?_
    clear hK K AL4 Ak3 Bk3
    generalize wk3.alloc (.cells #[.string x0, .string x1, .string x2, .string ⟨#[114, 101, 106, 101, 99, 116]⟩] 9) = wk4 at *
    generalize wk3.heap.size = gk4 at *
    refine AnyG.ready (rs := [11]) (by kernel_rfl) (by simp) ?_
    refine AllG.cons rfl (fun K hK => ?_) AllG.nil
    have szk := Bk4.size
    refine step_append_lies wk4 rfl (.tmp 16) (.tmp 26) 26 rfl w.heap.size 9 i0 (.string ByteArray.empty) 1 16 Tryz.underlying26 hi hz0 hz1 hz2 rfl (by decide) _ _ _ (by simp [Act.eval]) HO99.out ⟨gk4, 0, none⟩ 4 4 [.string x0, .string x1, .string x2, .string ⟨#[114, 101, 106, 101, 99, 116]⟩] (by simp [Act.eval]) rfl NW (ones_str [x0, x1, x2, tReject]) (by decide) (by unfold maxLen; simp) (by simp) szk _ rfl ?_
    intro q8 cap8 w8 hown hgrow hat hlt
    have B8 : Below w.heap.size w w8 := Bk4.grown hgrow szk (fun j hj => (HO99.out.lt j hj).1)
    have A8 : Blk w8 w.heap.size 45 #[.string l.name, .int .i64 l.kind, .int .i64 l.shares, .int .i64 l.lend, .int .i64 l.borrow, .int .i64 l.queues, .int .i64 l.hand, .int .i64 l.length, .int .i64 l.wait, .int .i64 l.guess] := Ak4.kept (Kept.of_grown (S := fun k => Value.ownBlock (.slice (some ⟨g1, 0, none⟩) 2 2) = some k) hgrow (fun k e => e)) (fun e => own_neP Ak4 HO99.out (by decide) e)
    refine hK.out _ _ ⟨A8, fun _ => trivial⟩ ?_
    clear hK K
    refine AnyG.putAt 27 rfl ?_
    simp only [List.setIfInBounds_toArray, List.set_cons_zero, List.set_cons_succ]
    refine .tq 12 3 A8 ?_; simp only [tkA, tkB, tkC]
    refine AnyG.done (by kernel_rfl) ?_ _
    have O8 : OwnT w.heap.size w8 (.slice (some ⟨q8, 0, none⟩) 6 cap8) ([tLevel, l.name] ++ [x0, x1, x2, tReject]) := OwnT.puts (M := [x0, x1, x2, tReject]) hown
    have LN := line_own O8 (by simp) (by simp) SH.out
    rw [HR.out] at LN
    go_wp2_with fail
    go_at_call 88
    refine LN.mono ?_
    rintro e w9 ⟨rfl, b9⟩
    go_wp2_with fail
    go_ret
    exact ⟨by rw [HL.out]; rfl, B8.trans (b9.mono B8.size)⟩
  · obtain ⟨⟨s1, s2⟩, ⟨s3, s4⟩, s5⟩ := sharesOk_iff.1 sh
    obtain ⟨⟨z1, z2⟩, ⟨z3, z4⟩, ⟨z5, z6⟩, ⟨z7, z8⟩, ⟨z9, z0⟩⟩ := lanesOk_iff.1 ln
    have HW : Hd (lvWs l = [tLevel, l.name] ++ [digB l.shares, digB l.lend, borW l.borrow, tQueue, digB l.queues, digB l.hand, digB l.length, digB l.wait, digB l.guess]) := ⟨by unfold lvWs; rw [if_neg (by omega), if_neg (by omega), if_pos k3]; rfl⟩
    have bo : -1 ≤ l.borrow ∧ l.borrow ≤ 1000000 := by rcases s5 with h | h <;> omega
    rw [k3] at c1
    have D0 : Hd (∀ W, Below w.heap.size w W → _) := ⟨DG.out l.shares (by omega) (by omega)⟩
    have D1 : Hd (∀ W, Below w.heap.size w W → _) := ⟨DG.out l.lend (by omega) (by omega)⟩
    have D2 : Hd (∀ W, Below w.heap.size w W → _) := ⟨BO.out l.borrow (by omega) (by omega)⟩
    have D3 : Hd (∀ W, Below w.heap.size w W → _) := ⟨DG.out l.queues (by omega) (by omega)⟩
    have D4 : Hd (∀ W, Below w.heap.size w W → _) := ⟨DG.out l.hand (by omega) (by omega)⟩
    have D5 : Hd (∀ W, Below w.heap.size w W → _) := ⟨DG.out l.length (by omega) (by omega)⟩
    have D6 : Hd (∀ W, Below w.heap.size w W → _) := ⟨DG.out l.wait (by omega) (by omega)⟩
    have D7 : Hd (∀ W, Below w.heap.size w W → _) := ⟨DG.out l.guess (by omega) (by omega)⟩
    have SH : Hd (∀ x ∈ [tLevel, l.name] ++ [digB l.shares, digB l.lend, borW l.borrow, tQueue, digB l.queues, digB l.hand, digB l.length, digB l.wait, digB l.guess], x.size ≤ 1000) := ⟨fun x hx => by
      simp only [List.mem_append, List.mem_cons, List.not_mem_nil, or_false] at hx
      rcases hx with (rfl | rfl) | rfl | rfl | rfl | rfl | rfl | rfl | rfl | rfl | rfl <;> first | exact ns | (decide) | exact dig_short _ (by omega) | exact bor_short _ (by omega)⟩
    generalize hws : lnB (lvWs l) = R
    have HR : Hd (lnB ([tLevel, l.name] ++ [digB l.shares, digB l.lend, borW l.borrow, tQueue, digB l.queues, digB l.hand, digB l.length, digB l.wait, digB l.guess]) = R) := ⟨by rw [← HW.out]; exact hws⟩
    have HL : Hd (lnB (lvWs l) = R) := ⟨hws⟩
    clear hws HW sh s1 s2 s3 s4 s5 bo BO DG k3 ln z1 z2 z3 z4 z5 z6 z7 z8 z9 z0
    generalize digB l.shares = x0 at *
    generalize digB l.lend = x1 at *
    generalize borW l.borrow = x2 at *
    generalize digB l.queues = x3 at *
    generalize digB l.hand = x4 at *
    generalize digB l.length = x5 at *
    generalize digB l.wait = x6 at *
    generalize digB l.guess = x7 at *
    go_wp2_with fail
    have DR : Below wa.heap.size wa wa.drew := ⟨rfl, rfl, rfl, Nat.le_refl _, fun _ _ => rfl⟩
    have A0 := S1.out.1.kept (Kept.of_below DR (fun _ => False)) id
    have B0 : Below w.heap.size w wa.drew := S1.out.2.2.trans (DR.mono S1.out.2.2.size)
    have HO0 : Hd (OwnT w.heap.size wa.drew (.slice (some ⟨g1, 0, none⟩) 2 2) [tLevel, l.name]) := ⟨own_goneP S1.out.2.1 DR⟩
    refine AnyG.start (T := fun w' => Blk w' w.heap.size 45 #[.string l.name, .int .i64 l.kind, .int .i64 l.shares, .int .i64 l.lend, .int .i64 l.borrow, .int .i64 l.queues, .int .i64 l.hand, .int .i64 l.length, .int .i64 l.wait, .int .i64 l.guess]) (U := fun _ => True) (j0 := 100) (by kernel_rfl) ?_
    clear DR c1 S1 sz1
    generalize wa.drew = w0 at *
    refine .tq 0 30 A0 ?_; simp only [tkA, tkB, tkC]
    refine .tq 1 31 A0 ?_; simp only [tkA, tkB, tkC]
    refine .tq 2 32 A0 ?_ (hy := fun w hSw => by have s4 := hSw.cellv (v := .int .i64 l.shares) 2 rfl; go_simp; rfl); simp only [tkA, tkB, tkC]
    refine .tq 4 34 A0 ?_; simp only [tkA, tkB, tkC]
    refine .tq 5 35 A0 ?_ (hy := fun w hSw => by have s4 := hSw.cellv (v := .int .i64 l.lend) 3 rfl; go_simp; rfl); simp only [tkA, tkB, tkC]
    refine .tq 7 37 A0 ?_; simp only [tkA, tkB, tkC]
    refine .tq 8 38 A0 ?_ (hy := fun w hSw => by have s4 := hSw.cellv (v := .int .i64 l.borrow) 4 rfl; go_simp; rfl); simp only [tkA, tkB, tkC]
    refine .tq 10 40 A0 ?_; simp only [tkA, tkB, tkC]
    refine .tq 11 41 A0 ?_ (hy := fun w hSw => by have s4 := hSw.cellv (v := .int .i64 l.queues) 5 rfl; go_simp; rfl); simp only [tkA, tkB, tkC]
    refine .tq 13 43 A0 ?_; simp only [tkA, tkB, tkC]
    refine .tq 14 44 A0 ?_ (hy := fun w hSw => by have s4 := hSw.cellv (v := .int .i64 l.hand) 6 rfl; go_simp; rfl); simp only [tkA, tkB, tkC]
    refine .tq 16 46 A0 ?_; simp only [tkA, tkB, tkC]
    refine .tq 17 47 A0 ?_ (hy := fun w hSw => by have s4 := hSw.cellv (v := .int .i64 l.length) 7 rfl; go_simp; rfl); simp only [tkA, tkB, tkC]
    refine .tq 19 49 A0 ?_; simp only [tkA, tkB, tkC]
    refine .tq 20 50 A0 ?_ (hy := fun w hSw => by have s4 := hSw.cellv (v := .int .i64 l.wait) 8 rfl; go_simp; rfl); simp only [tkA, tkB, tkC]
    refine .tq 22 52 A0 ?_; simp only [tkA, tkB, tkC]
    refine .tq 23 53 A0 ?_ (hy := fun w hSw => by have s4 := hSw.cellv (v := .int .i64 l.guess) 9 rfl; go_simp; rfl); simp only [tkA, tkB, tkC]
    refine AnyG.ready (rs := [3]) (by kernel_rfl) (by simp) ?_
    refine AllG.cons rfl (fun K hK => ?_) AllG.nil
    go_simp
    refine (D0.out w0 B0).mono ?_
    rintro e wk1 ⟨rfl, b1⟩
    have HO1 : Hd (OwnT w.heap.size wk1 (.slice (some ⟨g1, 0, none⟩) 2 2) [tLevel, l.name]) := ⟨own_goneP HO0.out b1⟩
    have Ak1 := A0.kept (Kept.of_below b1 (fun _ => False)) id
    have Bk1 : Below w.heap.size w wk1 := B0.trans (b1.mono B0.size)
    refine hK.out _ _ ⟨Ak1, fun _ => trivial⟩ ?_
    clear hK K b1 A0 B0 HO0
    refine AnyG.ready (rs := [6]) (by kernel_rfl) (by simp) ?_
    refine AllG.cons rfl (fun K hK => ?_) AllG.nil
    go_simp
    refine (D1.out wk1 Bk1).mono ?_
    rintro e wk2 ⟨rfl, b2⟩
    have HO2 : Hd (OwnT w.heap.size wk2 (.slice (some ⟨g1, 0, none⟩) 2 2) [tLevel, l.name]) := ⟨own_goneP HO1.out b2⟩
    have Ak2 := Ak1.kept (Kept.of_below b2 (fun _ => False)) id
    have Bk2 : Below w.heap.size w wk2 := Bk1.trans (b2.mono Bk1.size)
    refine hK.out _ _ ⟨Ak2, fun _ => trivial⟩ ?_
    clear hK K b2 Ak1 Bk1 HO1
    refine AnyG.ready (rs := [9]) (by kernel_rfl) (by simp) ?_
    refine AllG.cons rfl (fun K hK => ?_) AllG.nil
    go_simp
    refine (D2.out wk2 Bk2).mono ?_
    rintro e wk3 ⟨rfl, b3⟩
    have HO3 : Hd (OwnT w.heap.size wk3 (.slice (some ⟨g1, 0, none⟩) 2 2) [tLevel, l.name]) := ⟨own_goneP HO2.out b3⟩
    have Ak3 := Ak2.kept (Kept.of_below b3 (fun _ => False)) id
    have Bk3 : Below w.heap.size w wk3 := Bk2.trans (b3.mono Bk2.size)
    refine hK.out _ _ ⟨Ak3, fun _ => trivial⟩ ?_
    clear hK K b3 Ak2 Bk2 HO2
    refine AnyG.ready (rs := [12]) (by kernel_rfl) (by simp) ?_
    refine AllG.cons rfl (fun K hK => ?_) AllG.nil
    go_simp
    refine (D3.out wk3 Bk3).mono ?_
    rintro e wk4 ⟨rfl, b4⟩
    have HO4 : Hd (OwnT w.heap.size wk4 (.slice (some ⟨g1, 0, none⟩) 2 2) [tLevel, l.name]) := ⟨own_goneP HO3.out b4⟩
    have Ak4 := Ak3.kept (Kept.of_below b4 (fun _ => False)) id
    have Bk4 : Below w.heap.size w wk4 := Bk3.trans (b4.mono Bk3.size)
    refine hK.out _ _ ⟨Ak4, fun _ => trivial⟩ ?_
    clear hK K b4 Ak3 Bk3 HO3
    refine AnyG.ready (rs := [15]) (by kernel_rfl) (by simp) ?_
    refine AllG.cons rfl (fun K hK => ?_) AllG.nil
    go_simp
    refine (D4.out wk4 Bk4).mono ?_
    rintro e wk5 ⟨rfl, b5⟩
    have HO5 : Hd (OwnT w.heap.size wk5 (.slice (some ⟨g1, 0, none⟩) 2 2) [tLevel, l.name]) := ⟨own_goneP HO4.out b5⟩
    have Ak5 := Ak4.kept (Kept.of_below b5 (fun _ => False)) id
    have Bk5 : Below w.heap.size w wk5 := Bk4.trans (b5.mono Bk4.size)
    refine hK.out _ _ ⟨Ak5, fun _ => trivial⟩ ?_
    clear hK K b5 Ak4 Bk4 HO4
    refine AnyG.ready (rs := [18]) (by kernel_rfl) (by simp) ?_
    refine AllG.cons rfl (fun K hK => ?_) AllG.nil
    go_simp
    refine (D5.out wk5 Bk5).mono ?_
    rintro e wk6 ⟨rfl, b6⟩
    have HO6 : Hd (OwnT w.heap.size wk6 (.slice (some ⟨g1, 0, none⟩) 2 2) [tLevel, l.name]) := ⟨own_goneP HO5.out b6⟩
    have Ak6 := Ak5.kept (Kept.of_below b6 (fun _ => False)) id
    have Bk6 : Below w.heap.size w wk6 := Bk5.trans (b6.mono Bk5.size)
    refine hK.out _ _ ⟨Ak6, fun _ => trivial⟩ ?_
    clear hK K b6 Ak5 Bk5 HO5
    refine AnyG.ready (rs := [21]) (by kernel_rfl) (by simp) ?_
    refine AllG.cons rfl (fun K hK => ?_) AllG.nil
    go_simp
    refine (D6.out wk6 Bk6).mono ?_
    rintro e wk7 ⟨rfl, b7⟩
    have HO7 : Hd (OwnT w.heap.size wk7 (.slice (some ⟨g1, 0, none⟩) 2 2) [tLevel, l.name]) := ⟨own_goneP HO6.out b7⟩
    have Ak7 := Ak6.kept (Kept.of_below b7 (fun _ => False)) id
    have Bk7 : Below w.heap.size w wk7 := Bk6.trans (b7.mono Bk6.size)
    refine hK.out _ _ ⟨Ak7, fun _ => trivial⟩ ?_
    clear hK K b7 Ak6 Bk6 HO6
    refine AnyG.ready (rs := [24]) (by kernel_rfl) (by simp) ?_
    refine AllG.cons rfl (fun K hK => ?_) AllG.nil
    go_simp
    refine (D7.out wk7 Bk7).mono ?_
    rintro e wk8 ⟨rfl, b8⟩
    have HO8 : Hd (OwnT w.heap.size wk8 (.slice (some ⟨g1, 0, none⟩) 2 2) [tLevel, l.name]) := ⟨own_goneP HO7.out b8⟩
    have Ak8 := Ak7.kept (Kept.of_below b8 (fun _ => False)) id
    have Bk8 : Below w.heap.size w wk8 := Bk7.trans (b8.mono Bk7.size)
    refine hK.out _ _ ⟨Ak8, fun _ => trivial⟩ ?_
    clear hK K b8 Ak7 Bk7 HO7
    refine AnyG.ready (rs := [25]) (by kernel_rfl) (by simp) ?_
    refine AllG.cons rfl (fun K hK => ?_) AllG.nil
    go_simp
    have AL9 := alloc_below wk8 (.cells #[.string x0, .string x1, .string x2, .string ⟨#[113, 117, 101, 117, 101]⟩, .string x3, .string x4, .string x5, .string x6, .string x7] 9)
    have Ak9 := Ak8.kept (Kept.of_below AL9 (fun _ => False)) id
    have Bk9 : Below w.heap.size w (wk8.alloc (.cells #[.string x0, .string x1, .string x2, .string ⟨#[113, 117, 101, 117, 101]⟩, .string x3, .string x4, .string x5, .string x6, .string x7] 9)) := Bk8.trans (AL9.mono Bk8.size)
    have HO99 : Hd (OwnT w.heap.size (wk8.alloc (.cells #[.string x0, .string x1, .string x2, .string ⟨#[113, 117, 101, 117, 101]⟩, .string x3, .string x4, .string x5, .string x6, .string x7] 9)) (.slice (some ⟨g1, 0, none⟩) 2 2) [tLevel, l.name]) := ⟨own_goneP HO8.out AL9⟩
    have NW := World.news_of_block (Blk.new wk8 9 #[.string x0, .string x1, .string x2, .string ⟨#[113, 117, 101, 117, 101]⟩, .string x3, .string x4, .string x5, .string x6, .string x7])
    refine hK.out _ _ ⟨Ak9, fun _ => trivial⟩ ?_
    clear hK K AL9 Ak8 Bk8
    generalize wk8.alloc (.cells #[.string x0, .string x1, .string x2, .string ⟨#[113, 117, 101, 117, 101]⟩, .string x3, .string x4, .string x5, .string x6, .string x7] 9) = wk9 at *
    generalize wk8.heap.size = gk9 at *
    refine AnyG.ready (rs := [26]) (by kernel_rfl) (by simp) ?_
    refine AllG.cons rfl (fun K hK => ?_) AllG.nil
    have szk := Bk9.size
    refine step_append_lies wk9 rfl (.tmp 30) (.tmp 55) 26 rfl w.heap.size 9 i0 (.string ByteArray.empty) 1 16 Tryz.underlying26 hi hz0 hz1 hz2 rfl (by decide) _ _ _ (by simp [Act.eval]) HO99.out ⟨gk9, 0, none⟩ 9 9 [.string x0, .string x1, .string x2, .string ⟨#[113, 117, 101, 117, 101]⟩, .string x3, .string x4, .string x5, .string x6, .string x7] (by simp [Act.eval]) rfl NW (ones_str [x0, x1, x2, tQueue, x3, x4, x5, x6, x7]) (by decide) (by unfold maxLen; simp) (by simp) szk _ rfl ?_
    intro q8 cap8 w8 hown hgrow hat hlt
    have B8 : Below w.heap.size w w8 := Bk9.grown hgrow szk (fun j hj => (HO99.out.lt j hj).1)
    have A8 : Blk w8 w.heap.size 45 #[.string l.name, .int .i64 l.kind, .int .i64 l.shares, .int .i64 l.lend, .int .i64 l.borrow, .int .i64 l.queues, .int .i64 l.hand, .int .i64 l.length, .int .i64 l.wait, .int .i64 l.guess] := Ak9.kept (Kept.of_grown (S := fun k => Value.ownBlock (.slice (some ⟨g1, 0, none⟩) 2 2) = some k) hgrow (fun k e => e)) (fun e => own_neP Ak9 HO99.out (by decide) e)
    refine hK.out _ _ ⟨A8, fun _ => trivial⟩ ?_
    clear hK K
    refine AnyG.putAt 56 rfl ?_
    simp only [List.setIfInBounds_toArray, List.set_cons_zero, List.set_cons_succ]
    refine .tq 27 3 A8 ?_; simp only [tkA, tkB, tkC]
    refine AnyG.done (by kernel_rfl) ?_ _
    have O8 : OwnT w.heap.size w8 (.slice (some ⟨q8, 0, none⟩) 11 cap8) ([tLevel, l.name] ++ [x0, x1, x2, tQueue, x3, x4, x5, x6, x7]) := OwnT.puts (M := [x0, x1, x2, tQueue, x3, x4, x5, x6, x7]) hown
    have LN := line_own O8 (by simp) (by simp) SH.out
    rw [HR.out] at LN
    go_wp2_with fail
    go_at_call 88
    refine LN.mono ?_
    rintro e w9 ⟨rfl, b9⟩
    go_wp2_with fail
    go_ret
    exact ⟨by rw [HL.out]; rfl, B8.trans (b9.mono B8.size)⟩
end Go.Proofs.YtijjpblmnlednaaGreatDoor
