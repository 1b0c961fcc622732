/-
  The lines of the numbers, as 'numberLines' of 'print' answers them.
-/
import Derived.Test.YtijjpblmnlednaaGreatDoorE17
import Derived.Test.YtijjpblmnlednaaGreatDoorE35
import Derived.Test.YtijjpblmnlednaaGreatDoorE28
import Derived.Test.YtijjpblmnlednaaGreatDoorE13
namespace Go.Proofs.YtijjpblmnlednaaGreatDoor
open Go.RowKit Go.Lib
theorem row_lit (w : World) (L : List ByteArray) : RowL (w.alloc (.cells (L.map Value.string).toArray 9)) (some ⟨w.heap.size, 0, none⟩) L := fun _ => by
  have n := Blk.new w 9 (L.map Value.string).toArray
  refine ⟨w.heap.size, 0, rfl, n.lt, fun k hk => ?_⟩
  rw [Nat.zero_add, n.cell k, gt_eq hk]
  simp [hk]
theorem line_bound {ws : List ByteArray} (h : ∀ x ∈ ws, x.size ≤ 1000) : (lineL ws).length ≤ 1001 * ws.length := by
  by_cases e : ws.map (·.data.toList) = []
  · unfold lineL
    rw [e]
    exact Nat.zero_le _
  · have h1 := join_sum 32 e
    have h2 : ∀ L : List ByteArray, (∀ x ∈ L, x.size ≤ 1000) → ((L.map (·.data.toList)).map fun x => x.length + 1).sum ≤ 1001 * L.length := by
      intro L
      induction L with
      | nil => intro _; exact Nat.le_refl _
      | cons x r ih =>
        intro hx
        have i1 := ih fun y hy => hx y (List.mem_cons_of_mem _ hy)
        have i2 := hx x (List.mem_cons_self ..)
        rw [← size_list] at i2
        simp only [List.map_cons, List.sum_cons, List.length_cons]
        omega
    have h3 := h2 ws h
    unfold lineL
    omega
theorem dig_short (n : Int) (h : n ≤ 9223372036854775807) : (digB n).size ≤ 1000 := by
  unfold digB
  rw [mk_size]
  have := dec_len (max n 0).toNat 19 (by decide) (by omega)
  omega
theorem own_neP {B b t : Nat} {w : World} {v : Value} {L : List ByteArray} {cs : Array Value} (h : Blk w b t cs) (o : OwnT B w v L) (ht : t ≠ 9) (e : v.ownBlock = some b) : False := by
  obtain ⟨cur, hb⟩ := owns_type o e
  exact h.ne hb ht rfl
theorem own_goneP {B : Nat} {w w' : World} {v : Value} {L : List ByteArray} (h : OwnT B w v L) (b : Below w.heap.size w w') : OwnT B w' v L := owns_kept h (Kept.of_below b (fun _ => False)) (fun _ _ => id)

set_option maxRecDepth 20000 in
set_option maxHeartbeats 8000000 in
theorem numLines_ok (v : Value) (C : Cf) (w : World) (h : CfR w v C) (hF : Formed C) (hT : Tab w) :
    Calls Tryz.prog 41 #[v] w fun e w' => ∃ u, e = .returned u ∧ OwnT w.heap.size w' u ((numWs C).map lnB) ∧ Below w.heap.size w w' := by
  obtain ⟨aL, cL, aS, cS, V, rfl, -⟩ := h.ex
  clear h
  obtain ⟨i0, hi, hz0, hz1, hz2⟩ := info_parts info9
  have hT0 : Hd (Tab w) := ⟨hT⟩
  have D0 : Hd (∀ W, Below w.heap.size w W → Calls Tryz.prog 89 #[.int .i64 C.total] W fun e w' => e = .returned (.string (digB C.total)) ∧ Below W.heap.size W w') := ⟨fun W hW => digits_ok C.total (by have := hF.t; omega) (by have := hF.t; omega) W (hT0.out.stays hW)⟩
  have D1 : Hd (∀ W, Below w.heap.size w W → Calls Tryz.prog 89 #[.int .i64 C.period] W fun e w' => e = .returned (.string (digB C.period)) ∧ Below W.heap.size W w') := ⟨fun W hW => digits_ok C.period (by have := hF.p; omega) (by have := hF.p; omega) W (hT0.out.stays hW)⟩
  have D2 : Hd (∀ W, Below w.heap.size w W → Calls Tryz.prog 89 #[.int .i64 C.perSeat] W fun e w' => e = .returned (.string (digB C.perSeat)) ∧ Below W.heap.size W w') := ⟨fun W hW => digits_ok C.perSeat (by rcases hF.s with h | h <;> omega) (by rcases hF.s with h | h <;> omega) W (hT0.out.stays hW)⟩
  have D3 : Hd (∀ W, Below w.heap.size w W → Calls Tryz.prog 89 #[.int .i64 C.most] W fun e w' => e = .returned (.string (digB C.most)) ∧ Below W.heap.size W w') := ⟨fun W hW => digits_ok C.most (by rcases hF.s with h | h <;> omega) (by rcases hF.s with h | h <;> omega) W (hT0.out.stays hW)⟩
  have L0 : Hd (∀ W : World, Calls Tryz.prog 88 #[.slice (some ⟨W.heap.size, 0, none⟩) 2 2] (W.alloc (.cells #[.string tTotal, .string (digB C.total)] 9)) fun e w' => e = .returned (.string (lnB [tTotal, digB C.total])) ∧ Below (W.alloc (.cells #[.string tTotal, .string (digB C.total)] 9)).heap.size (W.alloc (.cells #[.string tTotal, .string (digB C.total)] 9)) w') := ⟨fun W => line_ok _ 2 [tTotal, digB C.total] _ (row_lit W [tTotal, digB C.total]) (Nat.le_refl _) (by simp) (by simp) (by
    have := line_bound (ws := [tTotal, digB C.total]) (fun x hx => by
      simp only [List.mem_cons, List.not_mem_nil, or_false] at hx
      rcases hx with rfl | rfl
      · decide
      · exact dig_short _ (by have := hF.t; omega))
    simp at this; omega)⟩
  have L1 : Hd (∀ W : World, Calls Tryz.prog 88 #[.slice (some ⟨W.heap.size, 0, none⟩) 2 2] (W.alloc (.cells #[.string tPeriod, .string (digB C.period)] 9)) fun e w' => e = .returned (.string (lnB [tPeriod, digB C.period])) ∧ Below (W.alloc (.cells #[.string tPeriod, .string (digB C.period)] 9)).heap.size (W.alloc (.cells #[.string tPeriod, .string (digB C.period)] 9)) w') := ⟨fun W => line_ok _ 2 [tPeriod, digB C.period] _ (row_lit W [tPeriod, digB C.period]) (Nat.le_refl _) (by simp) (by simp) (by
    have := line_bound (ws := [tPeriod, digB C.period]) (fun x hx => by
      simp only [List.mem_cons, List.not_mem_nil, or_false] at hx
      rcases hx with rfl | rfl
      · decide
      · exact dig_short _ (by have := hF.p; omega))
    simp at this; omega)⟩
  have L2 : Hd (∀ W : World, Calls Tryz.prog 88 #[.slice (some ⟨W.heap.size, 0, none⟩) 3 3] (W.alloc (.cells #[.string tSeats, .string (digB C.perSeat), .string (digB C.most)] 9)) fun e w' => e = .returned (.string (lnB [tSeats, digB C.perSeat, digB C.most])) ∧ Below (W.alloc (.cells #[.string tSeats, .string (digB C.perSeat), .string (digB C.most)] 9)).heap.size (W.alloc (.cells #[.string tSeats, .string (digB C.perSeat), .string (digB C.most)] 9)) w') := ⟨fun W => line_ok _ 3 [tSeats, digB C.perSeat, digB C.most] _ (row_lit W [tSeats, digB C.perSeat, digB C.most]) (Nat.le_refl _) (by simp) (by simp) (by
    have := line_bound (ws := [tSeats, digB C.perSeat, digB C.most]) (fun x hx => by
      simp only [List.mem_cons, List.not_mem_nil, or_false] at hx
      rcases hx with rfl | rfl | rfl
      · decide
      · exact dig_short _ (by rcases hF.s with h | h <;> omega)
      · exact dig_short _ (by rcases hF.s with h | h <;> omega))
    simp at this; omega)⟩
  have HW : Hd ((numWs C).map lnB = (if C.total = 0 then [] else [lnB [tTotal, digB C.total]]) ++ ((if C.period = 0 then [] else [lnB [tPeriod, digB C.period]]) ++ (if C.perSeat = 0 then [] else [lnB [tSeats, digB C.perSeat, digB C.most]]))) := ⟨by
    unfold numWs
    rw [List.map_append, List.map_append]
    by_cases a : C.total = 0 <;> by_cases b : C.period = 0 <;> by_cases c : C.perSeat = 0 <;> simp [a, b, c]⟩
  generalize (numWs C).map lnB = R at *
  generalize lnB [tTotal, digB C.total] = l0 at *
  generalize lnB [tPeriod, digB C.period] = l1 at *
  generalize lnB [tSeats, digB C.perSeat, digB C.most] = l2 at *
  generalize digB C.total = g0 at *
  generalize digB C.period = g1 at *
  generalize digB C.perSeat = g2 at *
  generalize digB C.most = g3 at *
  generalize C.levels.length = nL at *
  generalize C.schemas.length = nS at *
  unfold tTotal at L0
  unfold tPeriod at L1
  unfold tSeats at L2
  have AL := alloc_below w (.cells #[.int .i64 C.total, .int .i64 C.period, .int .i64 C.perSeat, .int .i64 C.most, .slice aL nL cL, .slice aS nS cS] 25)
  have NB := Blk.new w 25 #[.int .i64 C.total, .int .i64 C.period, .int .i64 C.perSeat, .int .i64 C.most, .slice aL nL cL, .slice aS nS cS]
  clear hT hF
  go_enter Tryz.func41, Tryz.ntmps41
  go_upto_region 1 with fail
  generalize w.alloc _ = w1 at *
  have S0 : Hd (Blk w1 w.heap.size 25 #[.int .i64 C.total, .int .i64 C.period, .int .i64 C.perSeat, .int .i64 C.most, .slice aL nL cL, .slice aS nS cS] ∧ OwnT w.heap.size w1 (.slice none 0 0) [] ∧ Below w.heap.size w w1) := ⟨NB, World.ownsRow_nil _ _ _ _, AL⟩
  clear AL NB
  by_cases z0 : C.total = 0
  · by_cases z1 : C.period = 0
    · by_cases z2 : C.perSeat = 0
      · skip
        have zb0 : (C.total != 0) = false := by simp [z0]
        have zb1 : (C.period != 0) = false := by simp [z1]
        have zb2 : (C.perSeat != 0) = false := by simp [z2]
        have HZ : Hd (C.total = 0 ∧ C.period = 0 ∧ C.perSeat = 0) := ⟨z0, z1, z2⟩
        clear z0 z1 z2
        have c0 := S0.out.1.cellv (v := .int .i64 C.total) 0 rfl
        have c1 := S0.out.1.cellv (v := .int .i64 C.period) 1 rfl
        have c2 := S0.out.1.cellv (v := .int .i64 C.perSeat) 2 rfl
        have c3 := S0.out.1.cellv (v := .int .i64 C.most) 3 rfl
        go_wp2_with fail
        go_ret
        exact ⟨_, rfl, by rw [HW.out, if_pos HZ.out.1, if_pos HZ.out.2.1, if_pos HZ.out.2.2]; exact S0.out.2.1, S0.out.2.2⟩
      · skip
        have zb0 : (C.total != 0) = false := by simp [z0]
        have zb1 : (C.period != 0) = false := by simp [z1]
        have zb2 : (C.perSeat != 0) = true := by simp [z2]
        have HZ : Hd (C.total = 0 ∧ C.period = 0 ∧ ¬ C.perSeat = 0) := ⟨z0, z1, z2⟩
        clear z0 z1 z2
        have c0 := S0.out.1.cellv (v := .int .i64 C.total) 0 rfl
        have c1 := S0.out.1.cellv (v := .int .i64 C.period) 1 rfl
        have c2 := S0.out.1.cellv (v := .int .i64 C.perSeat) 2 rfl
        have c3 := S0.out.1.cellv (v := .int .i64 C.most) 3 rfl
        go_wp2_with fail
        have DR : Below w1.heap.size w1 w1.drew := ⟨rfl, rfl, rfl, Nat.le_refl _, fun _ _ => rfl⟩
        have A0 := S0.out.1.kept (Kept.of_below DR (fun _ => False)) id
        have B0 : Below w.heap.size w w1.drew := S0.out.2.2.trans (DR.mono S0.out.2.2.size)
        have HO0 : Hd (OwnT w.heap.size w1.drew (Value.slice none 0 0) ([] : List ByteArray)) := ⟨own_goneP S0.out.2.1 DR⟩
        refine AnyG.start (T := fun w' => Blk w' w.heap.size 25 #[.int .i64 C.total, .int .i64 C.period, .int .i64 C.perSeat, .int .i64 C.most, .slice aL nL cL, .slice aS nS cS]) (U := fun _ => True) (j0 := 100) (by kernel_rfl) ?_
        clear DR c0 c1 c2 c3
        generalize w1.drew = w0 at *
        refine .tq 0 29 A0 ?_; simp only [tkA, tkB, tkC]
        refine .tq 1 30 A0 ?_; simp only [tkA, tkB, tkC]
        refine .tq 2 31 A0 ?_ (hy := fun w hSw => by have s4 := hSw.cellv (v := .int .i64 C.perSeat) 2 rfl; go_simp; rfl); simp only [tkA, tkB, tkC]
        refine .tq 4 33 A0 ?_; simp only [tkA, tkB, tkC]
        refine .tq 5 34 A0 ?_ (hy := fun w hSw => by have s4 := hSw.cellv (v := .int .i64 C.most) 3 rfl; go_simp; rfl); simp only [tkA, tkB, tkC]
        refine AnyG.ready (rs := [3]) (by kernel_rfl) (by simp) ?_
        refine AllG.cons rfl (fun K hK => ?_) AllG.nil
        go_simp
        refine (D2.out w0 B0).mono ?_
        rintro e wk1 ⟨rfl, b1⟩
        have HO1 : Hd (OwnT w.heap.size wk1 (Value.slice none 0 0) ([] : List ByteArray)) := ⟨own_goneP HO0.out b1⟩
        have Ak1 := A0.kept (Kept.of_below b1 (fun _ => False)) id
        have Bk1 : Below w.heap.size w wk1 := B0.trans (b1.mono B0.size)
        refine hK.out _ _ ⟨Ak1, fun _ => trivial⟩ ?_
        clear hK K b1 A0 B0
        refine AnyG.ready (rs := [6]) (by kernel_rfl) (by simp) ?_
        refine AllG.cons rfl (fun K hK => ?_) AllG.nil
        go_simp
        refine (D3.out wk1 Bk1).mono ?_
        rintro e wk2 ⟨rfl, b2⟩
        have HO2 : Hd (OwnT w.heap.size wk2 (Value.slice none 0 0) ([] : List ByteArray)) := ⟨own_goneP HO1.out b2⟩
        have Ak2 := Ak1.kept (Kept.of_below b2 (fun _ => False)) id
        have Bk2 : Below w.heap.size w wk2 := Bk1.trans (b2.mono Bk1.size)
        refine hK.out _ _ ⟨Ak2, fun _ => trivial⟩ ?_
        clear hK K b2 Ak1 Bk1
        have LL := L2.out wk2
        refine AnyG.ready (rs := [7]) (by kernel_rfl) (by simp) ?_
        refine AllG.cons rfl (fun K hK => ?_) AllG.nil
        go_simp
        have AL3 := alloc_below wk2 (.cells #[.string ⟨#[115, 101, 97, 116, 115]⟩, .string g2, .string g3] 9)
        have Ak3 := Ak2.kept (Kept.of_below AL3 (fun _ => False)) id
        have Bk3 : Below w.heap.size w (wk2.alloc (.cells #[.string ⟨#[115, 101, 97, 116, 115]⟩, .string g2, .string g3] 9)) := Bk2.trans (AL3.mono Bk2.size)
        have HO9 : Hd (OwnT w.heap.size (wk2.alloc (.cells #[.string ⟨#[115, 101, 97, 116, 115]⟩, .string g2, .string g3] 9)) (Value.slice none 0 0) ([] : List ByteArray)) := ⟨own_goneP HO2.out AL3⟩
        refine hK.out _ _ ⟨Ak3, fun _ => trivial⟩ ?_
        clear hK K AL3 Ak2 Bk2
        generalize wk2.alloc (.cells #[.string ⟨#[115, 101, 97, 116, 115]⟩, .string g2, .string g3] 9) = wk3 at *
        generalize wk2.heap.size = gk3 at *
        refine AnyG.ready (rs := [8]) (by kernel_rfl) (by simp) ?_
        refine AllG.cons rfl (fun K hK => ?_) AllG.nil
        go_simp
        refine (LL).mono ?_
        rintro e wk4 ⟨rfl, b4⟩
        have HO4 : Hd (OwnT w.heap.size wk4 (Value.slice none 0 0) ([] : List ByteArray)) := ⟨own_goneP HO9.out b4⟩
        have Ak4 := Ak3.kept (Kept.of_below b4 (fun _ => False)) id
        have Bk4 : Below w.heap.size w wk4 := Bk3.trans (b4.mono Bk3.size)
        refine hK.out _ _ ⟨Ak4, fun _ => trivial⟩ ?_
        clear hK K b4 Ak3 Bk3
        refine AnyG.ready (rs := [9]) (by kernel_rfl) (by simp) ?_
        refine AllG.cons rfl (fun K hK => ?_) AllG.nil
        go_simp
        have AL5 := alloc_below wk4 (.cells #[.string l2] 9)
        have Ak5 := Ak4.kept (Kept.of_below AL5 (fun _ => False)) id
        have Bk5 : Below w.heap.size w (wk4.alloc (.cells #[.string l2] 9)) := Bk4.trans (AL5.mono Bk4.size)
        have HO19 : Hd (OwnT w.heap.size (wk4.alloc (.cells #[.string l2] 9)) (Value.slice none 0 0) ([] : List ByteArray)) := ⟨own_goneP HO4.out AL5⟩
        have NW := one_newT wk4 l2
        refine hK.out _ _ ⟨Ak5, fun _ => trivial⟩ ?_
        clear hK K AL5 Ak4 Bk4
        generalize wk4.alloc (.cells #[.string l2] 9) = wk5 at *
        generalize wk4.heap.size = gk5 at *
        refine AnyG.ready (rs := [10]) (by kernel_rfl) (by simp) ?_
        refine AllG.cons rfl (fun K hK => ?_) AllG.nil
        have szk := Bk5.size
        refine step_append_lies wk5 rfl (.tmp 29) (.tmp 38) 26 rfl w.heap.size 9 i0 (.string ByteArray.empty) 1 16 Tryz.underlying26 hi hz0 hz1 hz2 rfl (by decide) _ _ _ (by simp [Act.eval]) HO19.out ⟨gk5, 0, none⟩ 1 1 [.string l2] (by simp [Act.eval]) rfl NW (one_cellT _) (by decide) (by unfold maxLen; simp) (by simp) szk _ rfl ?_
        intro q8 cap8 w8 hown hgrow hat hlt
        have B8 : Below w.heap.size w w8 := Bk5.grown hgrow szk (fun j hj => (HO19.out.lt j hj).1)
        have A8 : Blk w8 w.heap.size 25 #[.int .i64 C.total, .int .i64 C.period, .int .i64 C.perSeat, .int .i64 C.most, .slice aL nL cL, .slice aS nS cS] := Ak5.kept (Kept.of_grown (S := fun k => Value.ownBlock (Value.slice none 0 0) = some k) hgrow (fun k e => e)) (fun e => own_neP Ak5 HO19.out (by decide) e)
        refine hK.out _ _ ⟨A8, fun _ => trivial⟩ ?_
        clear hK K
        refine AnyG.putAt 39 rfl ?_
        simp only [List.setIfInBounds_toArray, List.set_cons_zero, List.set_cons_succ]
        refine .tq 11 3 A8 ?_; simp only [tkA, tkB, tkC]
        refine AnyG.done (by kernel_rfl) ?_ _
        have O8 : Hd (OwnT w.heap.size w8 (.slice (some ⟨q8, 0, none⟩) (([] : List ByteArray).length + 1) cap8) (([] : List ByteArray) ++ [l2])) := ⟨OwnT.put hown⟩
        go_wp2_with fail
        go_ret
        exact ⟨_, rfl, by rw [HW.out, if_pos HZ.out.1, if_pos HZ.out.2.1, if_neg HZ.out.2.2]; exact O8.out, B8⟩
    · by_cases z2 : C.perSeat = 0
      · skip
        have zb0 : (C.total != 0) = false := by simp [z0]
        have zb1 : (C.period != 0) = true := by simp [z1]
        have zb2 : (C.perSeat != 0) = false := by simp [z2]
        have HZ : Hd (C.total = 0 ∧ ¬ C.period = 0 ∧ C.perSeat = 0) := ⟨z0, z1, z2⟩
        clear z0 z1 z2
        have c0 := S0.out.1.cellv (v := .int .i64 C.total) 0 rfl
        have c1 := S0.out.1.cellv (v := .int .i64 C.period) 1 rfl
        have c2 := S0.out.1.cellv (v := .int .i64 C.perSeat) 2 rfl
        have c3 := S0.out.1.cellv (v := .int .i64 C.most) 3 rfl
        go_wp2_with fail
        go_at_call 89
        refine (D1.out _ S0.out.2.2).mono ?_
        rintro e wa2 ⟨rfl, ba2⟩
        go_wp2_with fail
        go_at_call 88
        refine (L1.out wa2).mono ?_
        rintro e wb2 ⟨rfl, bb2⟩
        have bc2 : Below w1.heap.size w1 wb2 := ba2.trans ((alloc_below wa2 (.cells #[.string ⟨#[112, 101, 114, 105, 111, 100]⟩, .string g1] 9)).mono ba2.size |>.trans (bb2.mono (Nat.le_trans ba2.size (alloc_below wa2 (.cells #[.string ⟨#[112, 101, 114, 105, 111, 100]⟩, .string g1] 9)).size)))
        have S2 : Hd (Blk wb2 w.heap.size 25 #[.int .i64 C.total, .int .i64 C.period, .int .i64 C.perSeat, .int .i64 C.most, .slice aL nL cL, .slice aS nS cS] ∧ OwnT w.heap.size wb2 (Value.slice none 0 0) ([] : List ByteArray) ∧ Below w.heap.size w wb2) := ⟨S0.out.1.kept (Kept.of_below bc2 (fun _ => False)) id, own_goneP S0.out.2.1 bc2, S0.out.2.2.trans (bc2.mono S0.out.2.2.size)⟩
        have sz2 := S2.out.2.2.size
        clear ba2 bb2 bc2 c0 c1 c2 c3
        go_wp2_with (at_builtin; refine wpList_append_own _ rfl _ _ 26 rfl w.heap.size 9 i0 (.string ByteArray.empty) 1 16 Tryz.underlying26 hi hz0 hz1 hz2 rfl (by decide) _ _ _ rfl (S2.out.2.1.alloc _) ⟨wb2.heap.size, 0, none⟩ 1 1 [.string l1] rfl rfl (one_newT _ _) (one_cellT _) (by unfold maxLen; simp) (by simp) (by simp; omega) ?_; intro vd2 wd2 hown2 hgrow2 _; have P2 : Hd (Blk wd2 w.heap.size 25 #[.int .i64 C.total, .int .i64 C.period, .int .i64 C.perSeat, .int .i64 C.most, .slice aL nL cL, .slice aS nS cS] ∧ OwnT w.heap.size wd2 vd2 (([] : List ByteArray) ++ [l1]) ∧ Below w.heap.size w wd2) := ⟨(S2.out.1.kept (Kept.of_below (alloc_below _ _) (fun _ => False)) id).kept (Kept.of_grown (S := fun k => Value.ownBlock (Value.slice none 0 0) = some k) hgrow2 (fun k e => e)) (fun e => own_neP S2.out.1 S2.out.2.1 (by decide) e), OwnT.put hown2, (S2.out.2.2.alloc sz2 _).grown hgrow2 (by simp; omega) (fun j hj => (S2.out.2.1.lt j hj).1)⟩; have c1 := P2.out.1.cellv (v := .int .i64 C.period) 1 rfl; have c2 := P2.out.1.cellv (v := .int .i64 C.perSeat) 2 rfl; have c3 := P2.out.1.cellv (v := .int .i64 C.most) 3 rfl; have c0 := P2.out.1.cellv (v := .int .i64 C.total) 0 rfl)
        clear hown2 hgrow2 sz2
        go_ret
        exact ⟨_, rfl, by rw [HW.out, if_pos HZ.out.1, if_neg HZ.out.2.1, if_pos HZ.out.2.2]; exact P2.out.2.1, P2.out.2.2⟩
      · skip
        have zb0 : (C.total != 0) = false := by simp [z0]
        have zb1 : (C.period != 0) = true := by simp [z1]
        have zb2 : (C.perSeat != 0) = true := by simp [z2]
        have HZ : Hd (C.total = 0 ∧ ¬ C.period = 0 ∧ ¬ C.perSeat = 0) := ⟨z0, z1, z2⟩
        clear z0 z1 z2
        have c0 := S0.out.1.cellv (v := .int .i64 C.total) 0 rfl
        have c1 := S0.out.1.cellv (v := .int .i64 C.period) 1 rfl
        have c2 := S0.out.1.cellv (v := .int .i64 C.perSeat) 2 rfl
        have c3 := S0.out.1.cellv (v := .int .i64 C.most) 3 rfl
        go_wp2_with fail
        go_at_call 89
        refine (D1.out _ S0.out.2.2).mono ?_
        rintro e wa2 ⟨rfl, ba2⟩
        go_wp2_with fail
        go_at_call 88
        refine (L1.out wa2).mono ?_
        rintro e wb2 ⟨rfl, bb2⟩
        have bc2 : Below w1.heap.size w1 wb2 := ba2.trans ((alloc_below wa2 (.cells #[.string ⟨#[112, 101, 114, 105, 111, 100]⟩, .string g1] 9)).mono ba2.size |>.trans (bb2.mono (Nat.le_trans ba2.size (alloc_below wa2 (.cells #[.string ⟨#[112, 101, 114, 105, 111, 100]⟩, .string g1] 9)).size)))
        have S2 : Hd (Blk wb2 w.heap.size 25 #[.int .i64 C.total, .int .i64 C.period, .int .i64 C.perSeat, .int .i64 C.most, .slice aL nL cL, .slice aS nS cS] ∧ OwnT w.heap.size wb2 (Value.slice none 0 0) ([] : List ByteArray) ∧ Below w.heap.size w wb2) := ⟨S0.out.1.kept (Kept.of_below bc2 (fun _ => False)) id, own_goneP S0.out.2.1 bc2, S0.out.2.2.trans (bc2.mono S0.out.2.2.size)⟩
        have sz2 := S2.out.2.2.size
        clear ba2 bb2 bc2 c0 c1 c2 c3
        go_wp2_with (at_builtin; refine wpList_append_own _ rfl _ _ 26 rfl w.heap.size 9 i0 (.string ByteArray.empty) 1 16 Tryz.underlying26 hi hz0 hz1 hz2 rfl (by decide) _ _ _ rfl (S2.out.2.1.alloc _) ⟨wb2.heap.size, 0, none⟩ 1 1 [.string l1] rfl rfl (one_newT _ _) (one_cellT _) (by unfold maxLen; simp) (by simp) (by simp; omega) ?_; intro vd2 wd2 hown2 hgrow2 _; have P2 : Hd (Blk wd2 w.heap.size 25 #[.int .i64 C.total, .int .i64 C.period, .int .i64 C.perSeat, .int .i64 C.most, .slice aL nL cL, .slice aS nS cS] ∧ OwnT w.heap.size wd2 vd2 (([] : List ByteArray) ++ [l1]) ∧ Below w.heap.size w wd2) := ⟨(S2.out.1.kept (Kept.of_below (alloc_below _ _) (fun _ => False)) id).kept (Kept.of_grown (S := fun k => Value.ownBlock (Value.slice none 0 0) = some k) hgrow2 (fun k e => e)) (fun e => own_neP S2.out.1 S2.out.2.1 (by decide) e), OwnT.put hown2, (S2.out.2.2.alloc sz2 _).grown hgrow2 (by simp; omega) (fun j hj => (S2.out.2.1.lt j hj).1)⟩; have c1 := P2.out.1.cellv (v := .int .i64 C.period) 1 rfl; have c2 := P2.out.1.cellv (v := .int .i64 C.perSeat) 2 rfl; have c3 := P2.out.1.cellv (v := .int .i64 C.most) 3 rfl; have c0 := P2.out.1.cellv (v := .int .i64 C.total) 0 rfl)
        clear hown2 hgrow2 sz2
        have DR : Below wd2.heap.size wd2 wd2.drew := ⟨rfl, rfl, rfl, Nat.le_refl _, fun _ _ => rfl⟩
        have A0 := P2.out.1.kept (Kept.of_below DR (fun _ => False)) id
        have B0 : Below w.heap.size w wd2.drew := P2.out.2.2.trans (DR.mono P2.out.2.2.size)
        have HO0 : Hd (OwnT w.heap.size wd2.drew vd2 (([] : List ByteArray) ++ [l1])) := ⟨own_goneP P2.out.2.1 DR⟩
        refine AnyG.start (T := fun w' => Blk w' w.heap.size 25 #[.int .i64 C.total, .int .i64 C.period, .int .i64 C.perSeat, .int .i64 C.most, .slice aL nL cL, .slice aS nS cS]) (U := fun _ => True) (j0 := 100) (by kernel_rfl) ?_
        clear DR c0 c1 c2 c3
        generalize wd2.drew = w0 at *
        refine .tq 0 29 A0 ?_; simp only [tkA, tkB, tkC]
        refine .tq 1 30 A0 ?_; simp only [tkA, tkB, tkC]
        refine .tq 2 31 A0 ?_ (hy := fun w hSw => by have s4 := hSw.cellv (v := .int .i64 C.perSeat) 2 rfl; go_simp; rfl); simp only [tkA, tkB, tkC]
        refine .tq 4 33 A0 ?_; simp only [tkA, tkB, tkC]
        refine .tq 5 34 A0 ?_ (hy := fun w hSw => by have s4 := hSw.cellv (v := .int .i64 C.most) 3 rfl; go_simp; rfl); simp only [tkA, tkB, tkC]
        refine AnyG.ready (rs := [3]) (by kernel_rfl) (by simp) ?_
        refine AllG.cons rfl (fun K hK => ?_) AllG.nil
        go_simp
        refine (D2.out w0 B0).mono ?_
        rintro e wk1 ⟨rfl, b1⟩
        have HO1 : Hd (OwnT w.heap.size wk1 vd2 (([] : List ByteArray) ++ [l1])) := ⟨own_goneP HO0.out b1⟩
        have Ak1 := A0.kept (Kept.of_below b1 (fun _ => False)) id
        have Bk1 : Below w.heap.size w wk1 := B0.trans (b1.mono B0.size)
        refine hK.out _ _ ⟨Ak1, fun _ => trivial⟩ ?_
        clear hK K b1 A0 B0
        refine AnyG.ready (rs := [6]) (by kernel_rfl) (by simp) ?_
        refine AllG.cons rfl (fun K hK => ?_) AllG.nil
        go_simp
        refine (D3.out wk1 Bk1).mono ?_
        rintro e wk2 ⟨rfl, b2⟩
        have HO2 : Hd (OwnT w.heap.size wk2 vd2 (([] : List ByteArray) ++ [l1])) := ⟨own_goneP HO1.out b2⟩
        have Ak2 := Ak1.kept (Kept.of_below b2 (fun _ => False)) id
        have Bk2 : Below w.heap.size w wk2 := Bk1.trans (b2.mono Bk1.size)
        refine hK.out _ _ ⟨Ak2, fun _ => trivial⟩ ?_
        clear hK K b2 Ak1 Bk1
        have LL := L2.out wk2
        refine AnyG.ready (rs := [7]) (by kernel_rfl) (by simp) ?_
        refine AllG.cons rfl (fun K hK => ?_) AllG.nil
        go_simp
        have AL3 := alloc_below wk2 (.cells #[.string ⟨#[115, 101, 97, 116, 115]⟩, .string g2, .string g3] 9)
        have Ak3 := Ak2.kept (Kept.of_below AL3 (fun _ => False)) id
        have Bk3 : Below w.heap.size w (wk2.alloc (.cells #[.string ⟨#[115, 101, 97, 116, 115]⟩, .string g2, .string g3] 9)) := Bk2.trans (AL3.mono Bk2.size)
        have HO9 : Hd (OwnT w.heap.size (wk2.alloc (.cells #[.string ⟨#[115, 101, 97, 116, 115]⟩, .string g2, .string g3] 9)) vd2 (([] : List ByteArray) ++ [l1])) := ⟨own_goneP HO2.out AL3⟩
        refine hK.out _ _ ⟨Ak3, fun _ => trivial⟩ ?_
        clear hK K AL3 Ak2 Bk2
        generalize wk2.alloc (.cells #[.string ⟨#[115, 101, 97, 116, 115]⟩, .string g2, .string g3] 9) = wk3 at *
        generalize wk2.heap.size = gk3 at *
        refine AnyG.ready (rs := [8]) (by kernel_rfl) (by simp) ?_
        refine AllG.cons rfl (fun K hK => ?_) AllG.nil
        go_simp
        refine (LL).mono ?_
        rintro e wk4 ⟨rfl, b4⟩
        have HO4 : Hd (OwnT w.heap.size wk4 vd2 (([] : List ByteArray) ++ [l1])) := ⟨own_goneP HO9.out b4⟩
        have Ak4 := Ak3.kept (Kept.of_below b4 (fun _ => False)) id
        have Bk4 : Below w.heap.size w wk4 := Bk3.trans (b4.mono Bk3.size)
        refine hK.out _ _ ⟨Ak4, fun _ => trivial⟩ ?_
        clear hK K b4 Ak3 Bk3
        refine AnyG.ready (rs := [9]) (by kernel_rfl) (by simp) ?_
        refine AllG.cons rfl (fun K hK => ?_) AllG.nil
        go_simp
        have AL5 := alloc_below wk4 (.cells #[.string l2] 9)
        have Ak5 := Ak4.kept (Kept.of_below AL5 (fun _ => False)) id
        have Bk5 : Below w.heap.size w (wk4.alloc (.cells #[.string l2] 9)) := Bk4.trans (AL5.mono Bk4.size)
        have HO19 : Hd (OwnT w.heap.size (wk4.alloc (.cells #[.string l2] 9)) vd2 (([] : List ByteArray) ++ [l1])) := ⟨own_goneP HO4.out AL5⟩
        have NW := one_newT wk4 l2
        refine hK.out _ _ ⟨Ak5, fun _ => trivial⟩ ?_
        clear hK K AL5 Ak4 Bk4
        generalize wk4.alloc (.cells #[.string l2] 9) = wk5 at *
        generalize wk4.heap.size = gk5 at *
        refine AnyG.ready (rs := [10]) (by kernel_rfl) (by simp) ?_
        refine AllG.cons rfl (fun K hK => ?_) AllG.nil
        have szk := Bk5.size
        refine step_append_lies wk5 rfl (.tmp 29) (.tmp 38) 26 rfl w.heap.size 9 i0 (.string ByteArray.empty) 1 16 Tryz.underlying26 hi hz0 hz1 hz2 rfl (by decide) _ _ _ (by simp [Act.eval]) HO19.out ⟨gk5, 0, none⟩ 1 1 [.string l2] (by simp [Act.eval]) rfl NW (one_cellT _) (by decide) (by unfold maxLen; simp) (by simp) szk _ rfl ?_
        intro q8 cap8 w8 hown hgrow hat hlt
        have B8 : Below w.heap.size w w8 := Bk5.grown hgrow szk (fun j hj => (HO19.out.lt j hj).1)
        have A8 : Blk w8 w.heap.size 25 #[.int .i64 C.total, .int .i64 C.period, .int .i64 C.perSeat, .int .i64 C.most, .slice aL nL cL, .slice aS nS cS] := Ak5.kept (Kept.of_grown (S := fun k => Value.ownBlock vd2 = some k) hgrow (fun k e => e)) (fun e => own_neP Ak5 HO19.out (by decide) e)
        refine hK.out _ _ ⟨A8, fun _ => trivial⟩ ?_
        clear hK K
        refine AnyG.putAt 39 rfl ?_
        simp only [List.setIfInBounds_toArray, List.set_cons_zero, List.set_cons_succ]
        refine .tq 11 3 A8 ?_; simp only [tkA, tkB, tkC]
        refine AnyG.done (by kernel_rfl) ?_ _
        have O8 : Hd (OwnT w.heap.size w8 (.slice (some ⟨q8, 0, none⟩) ((([] : List ByteArray) ++ [l1]).length + 1) cap8) ((([] : List ByteArray) ++ [l1]) ++ [l2])) := ⟨OwnT.put hown⟩
        go_wp2_with fail
        go_ret
        exact ⟨_, rfl, by rw [HW.out, if_pos HZ.out.1, if_neg HZ.out.2.1, if_neg HZ.out.2.2]; exact O8.out, B8⟩
  · by_cases z1 : C.period = 0
    · by_cases z2 : C.perSeat = 0
      · skip
        have zb0 : (C.total != 0) = true := by simp [z0]
        have zb1 : (C.period != 0) = false := by simp [z1]
        have zb2 : (C.perSeat != 0) = false := by simp [z2]
        have HZ : Hd (¬ C.total = 0 ∧ C.period = 0 ∧ C.perSeat = 0) := ⟨z0, z1, z2⟩
        clear z0 z1 z2
        have c0 := S0.out.1.cellv (v := .int .i64 C.total) 0 rfl
        have c1 := S0.out.1.cellv (v := .int .i64 C.period) 1 rfl
        have c2 := S0.out.1.cellv (v := .int .i64 C.perSeat) 2 rfl
        have c3 := S0.out.1.cellv (v := .int .i64 C.most) 3 rfl
        go_wp2_with fail
        go_at_call 89
        refine (D0.out _ S0.out.2.2).mono ?_
        rintro e wa1 ⟨rfl, ba1⟩
        go_wp2_with fail
        go_at_call 88
        refine (L0.out wa1).mono ?_
        rintro e wb1 ⟨rfl, bb1⟩
        have bc1 : Below w1.heap.size w1 wb1 := ba1.trans ((alloc_below wa1 (.cells #[.string ⟨#[116, 111, 116, 97, 108]⟩, .string g0] 9)).mono ba1.size |>.trans (bb1.mono (Nat.le_trans ba1.size (alloc_below wa1 (.cells #[.string ⟨#[116, 111, 116, 97, 108]⟩, .string g0] 9)).size)))
        have S1 : Hd (Blk wb1 w.heap.size 25 #[.int .i64 C.total, .int .i64 C.period, .int .i64 C.perSeat, .int .i64 C.most, .slice aL nL cL, .slice aS nS cS] ∧ OwnT w.heap.size wb1 (Value.slice none 0 0) ([] : List ByteArray) ∧ Below w.heap.size w wb1) := ⟨S0.out.1.kept (Kept.of_below bc1 (fun _ => False)) id, own_goneP S0.out.2.1 bc1, S0.out.2.2.trans (bc1.mono S0.out.2.2.size)⟩
        have sz1 := S1.out.2.2.size
        clear ba1 bb1 bc1 c0 c1 c2 c3
        go_wp2_with (at_builtin; refine wpList_append_own _ rfl _ _ 26 rfl w.heap.size 9 i0 (.string ByteArray.empty) 1 16 Tryz.underlying26 hi hz0 hz1 hz2 rfl (by decide) _ _ _ rfl (S1.out.2.1.alloc _) ⟨wb1.heap.size, 0, none⟩ 1 1 [.string l0] rfl rfl (one_newT _ _) (one_cellT _) (by unfold maxLen; simp) (by simp) (by simp; omega) ?_; intro vd1 wd1 hown1 hgrow1 _; have P1 : Hd (Blk wd1 w.heap.size 25 #[.int .i64 C.total, .int .i64 C.period, .int .i64 C.perSeat, .int .i64 C.most, .slice aL nL cL, .slice aS nS cS] ∧ OwnT w.heap.size wd1 vd1 (([] : List ByteArray) ++ [l0]) ∧ Below w.heap.size w wd1) := ⟨(S1.out.1.kept (Kept.of_below (alloc_below _ _) (fun _ => False)) id).kept (Kept.of_grown (S := fun k => Value.ownBlock (Value.slice none 0 0) = some k) hgrow1 (fun k e => e)) (fun e => own_neP S1.out.1 S1.out.2.1 (by decide) e), OwnT.put hown1, (S1.out.2.2.alloc sz1 _).grown hgrow1 (by simp; omega) (fun j hj => (S1.out.2.1.lt j hj).1)⟩; have c1 := P1.out.1.cellv (v := .int .i64 C.period) 1 rfl; have c2 := P1.out.1.cellv (v := .int .i64 C.perSeat) 2 rfl; have c3 := P1.out.1.cellv (v := .int .i64 C.most) 3 rfl; have c0 := P1.out.1.cellv (v := .int .i64 C.total) 0 rfl)
        clear hown1 hgrow1 sz1
        go_ret
        exact ⟨_, rfl, by rw [HW.out, if_neg HZ.out.1, if_pos HZ.out.2.1, if_pos HZ.out.2.2]; exact P1.out.2.1, P1.out.2.2⟩
      · skip
        have zb0 : (C.total != 0) = true := by simp [z0]
        have zb1 : (C.period != 0) = false := by simp [z1]
        have zb2 : (C.perSeat != 0) = true := by simp [z2]
        have HZ : Hd (¬ C.total = 0 ∧ C.period = 0 ∧ ¬ C.perSeat = 0) := ⟨z0, z1, z2⟩
        clear z0 z1 z2
        have c0 := S0.out.1.cellv (v := .int .i64 C.total) 0 rfl
        have c1 := S0.out.1.cellv (v := .int .i64 C.period) 1 rfl
        have c2 := S0.out.1.cellv (v := .int .i64 C.perSeat) 2 rfl
        have c3 := S0.out.1.cellv (v := .int .i64 C.most) 3 rfl
        go_wp2_with fail
        go_at_call 89
        refine (D0.out _ S0.out.2.2).mono ?_
        rintro e wa1 ⟨rfl, ba1⟩
        go_wp2_with fail
        go_at_call 88
        refine (L0.out wa1).mono ?_
        rintro e wb1 ⟨rfl, bb1⟩
        have bc1 : Below w1.heap.size w1 wb1 := ba1.trans ((alloc_below wa1 (.cells #[.string ⟨#[116, 111, 116, 97, 108]⟩, .string g0] 9)).mono ba1.size |>.trans (bb1.mono (Nat.le_trans ba1.size (alloc_below wa1 (.cells #[.string ⟨#[116, 111, 116, 97, 108]⟩, .string g0] 9)).size)))
        have S1 : Hd (Blk wb1 w.heap.size 25 #[.int .i64 C.total, .int .i64 C.period, .int .i64 C.perSeat, .int .i64 C.most, .slice aL nL cL, .slice aS nS cS] ∧ OwnT w.heap.size wb1 (Value.slice none 0 0) ([] : List ByteArray) ∧ Below w.heap.size w wb1) := ⟨S0.out.1.kept (Kept.of_below bc1 (fun _ => False)) id, own_goneP S0.out.2.1 bc1, S0.out.2.2.trans (bc1.mono S0.out.2.2.size)⟩
        have sz1 := S1.out.2.2.size
        clear ba1 bb1 bc1 c0 c1 c2 c3
        go_wp2_with (at_builtin; refine wpList_append_own _ rfl _ _ 26 rfl w.heap.size 9 i0 (.string ByteArray.empty) 1 16 Tryz.underlying26 hi hz0 hz1 hz2 rfl (by decide) _ _ _ rfl (S1.out.2.1.alloc _) ⟨wb1.heap.size, 0, none⟩ 1 1 [.string l0] rfl rfl (one_newT _ _) (one_cellT _) (by unfold maxLen; simp) (by simp) (by simp; omega) ?_; intro vd1 wd1 hown1 hgrow1 _; have P1 : Hd (Blk wd1 w.heap.size 25 #[.int .i64 C.total, .int .i64 C.period, .int .i64 C.perSeat, .int .i64 C.most, .slice aL nL cL, .slice aS nS cS] ∧ OwnT w.heap.size wd1 vd1 (([] : List ByteArray) ++ [l0]) ∧ Below w.heap.size w wd1) := ⟨(S1.out.1.kept (Kept.of_below (alloc_below _ _) (fun _ => False)) id).kept (Kept.of_grown (S := fun k => Value.ownBlock (Value.slice none 0 0) = some k) hgrow1 (fun k e => e)) (fun e => own_neP S1.out.1 S1.out.2.1 (by decide) e), OwnT.put hown1, (S1.out.2.2.alloc sz1 _).grown hgrow1 (by simp; omega) (fun j hj => (S1.out.2.1.lt j hj).1)⟩; have c1 := P1.out.1.cellv (v := .int .i64 C.period) 1 rfl; have c2 := P1.out.1.cellv (v := .int .i64 C.perSeat) 2 rfl; have c3 := P1.out.1.cellv (v := .int .i64 C.most) 3 rfl; have c0 := P1.out.1.cellv (v := .int .i64 C.total) 0 rfl)
        clear hown1 hgrow1 sz1
        have DR : Below wd1.heap.size wd1 wd1.drew := ⟨rfl, rfl, rfl, Nat.le_refl _, fun _ _ => rfl⟩
        have A0 := P1.out.1.kept (Kept.of_below DR (fun _ => False)) id
        have B0 : Below w.heap.size w wd1.drew := P1.out.2.2.trans (DR.mono P1.out.2.2.size)
        have HO0 : Hd (OwnT w.heap.size wd1.drew vd1 (([] : List ByteArray) ++ [l0])) := ⟨own_goneP P1.out.2.1 DR⟩
        refine AnyG.start (T := fun w' => Blk w' w.heap.size 25 #[.int .i64 C.total, .int .i64 C.period, .int .i64 C.perSeat, .int .i64 C.most, .slice aL nL cL, .slice aS nS cS]) (U := fun _ => True) (j0 := 100) (by kernel_rfl) ?_
        clear DR c0 c1 c2 c3
        generalize wd1.drew = w0 at *
        refine .tq 0 29 A0 ?_; simp only [tkA, tkB, tkC]
        refine .tq 1 30 A0 ?_; simp only [tkA, tkB, tkC]
        refine .tq 2 31 A0 ?_ (hy := fun w hSw => by have s4 := hSw.cellv (v := .int .i64 C.perSeat) 2 rfl; go_simp; rfl); simp only [tkA, tkB, tkC]
        refine .tq 4 33 A0 ?_; simp only [tkA, tkB, tkC]
        refine .tq 5 34 A0 ?_ (hy := fun w hSw => by have s4 := hSw.cellv (v := .int .i64 C.most) 3 rfl; go_simp; rfl); simp only [tkA, tkB, tkC]
        refine AnyG.ready (rs := [3]) (by kernel_rfl) (by simp) ?_
        refine AllG.cons rfl (fun K hK => ?_) AllG.nil
        go_simp
        refine (D2.out w0 B0).mono ?_
        rintro e wk1 ⟨rfl, b1⟩
        have HO1 : Hd (OwnT w.heap.size wk1 vd1 (([] : List ByteArray) ++ [l0])) := ⟨own_goneP HO0.out b1⟩
        have Ak1 := A0.kept (Kept.of_below b1 (fun _ => False)) id
        have Bk1 : Below w.heap.size w wk1 := B0.trans (b1.mono B0.size)
        refine hK.out _ _ ⟨Ak1, fun _ => trivial⟩ ?_
        clear hK K b1 A0 B0
        refine AnyG.ready (rs := [6]) (by kernel_rfl) (by simp) ?_
        refine AllG.cons rfl (fun K hK => ?_) AllG.nil
        go_simp
        refine (D3.out wk1 Bk1).mono ?_
        rintro e wk2 ⟨rfl, b2⟩
        have HO2 : Hd (OwnT w.heap.size wk2 vd1 (([] : List ByteArray) ++ [l0])) := ⟨own_goneP HO1.out b2⟩
        have Ak2 := Ak1.kept (Kept.of_below b2 (fun _ => False)) id
        have Bk2 : Below w.heap.size w wk2 := Bk1.trans (b2.mono Bk1.size)
        refine hK.out _ _ ⟨Ak2, fun _ => trivial⟩ ?_
        clear hK K b2 Ak1 Bk1
        have LL := L2.out wk2
        refine AnyG.ready (rs := [7]) (by kernel_rfl) (by simp) ?_
        refine AllG.cons rfl (fun K hK => ?_) AllG.nil
        go_simp
        have AL3 := alloc_below wk2 (.cells #[.string ⟨#[115, 101, 97, 116, 115]⟩, .string g2, .string g3] 9)
        have Ak3 := Ak2.kept (Kept.of_below AL3 (fun _ => False)) id
        have Bk3 : Below w.heap.size w (wk2.alloc (.cells #[.string ⟨#[115, 101, 97, 116, 115]⟩, .string g2, .string g3] 9)) := Bk2.trans (AL3.mono Bk2.size)
        have HO9 : Hd (OwnT w.heap.size (wk2.alloc (.cells #[.string ⟨#[115, 101, 97, 116, 115]⟩, .string g2, .string g3] 9)) vd1 (([] : List ByteArray) ++ [l0])) := ⟨own_goneP HO2.out AL3⟩
        refine hK.out _ _ ⟨Ak3, fun _ => trivial⟩ ?_
        clear hK K AL3 Ak2 Bk2
        generalize wk2.alloc (.cells #[.string ⟨#[115, 101, 97, 116, 115]⟩, .string g2, .string g3] 9) = wk3 at *
        generalize wk2.heap.size = gk3 at *
        refine AnyG.ready (rs := [8]) (by kernel_rfl) (by simp) ?_
        refine AllG.cons rfl (fun K hK => ?_) AllG.nil
        go_simp
        refine (LL).mono ?_
        rintro e wk4 ⟨rfl, b4⟩
        have HO4 : Hd (OwnT w.heap.size wk4 vd1 (([] : List ByteArray) ++ [l0])) := ⟨own_goneP HO9.out b4⟩
        have Ak4 := Ak3.kept (Kept.of_below b4 (fun _ => False)) id
        have Bk4 : Below w.heap.size w wk4 := Bk3.trans (b4.mono Bk3.size)
        refine hK.out _ _ ⟨Ak4, fun _ => trivial⟩ ?_
        clear hK K b4 Ak3 Bk3
        refine AnyG.ready (rs := [9]) (by kernel_rfl) (by simp) ?_
        refine AllG.cons rfl (fun K hK => ?_) AllG.nil
        go_simp
        have AL5 := alloc_below wk4 (.cells #[.string l2] 9)
        have Ak5 := Ak4.kept (Kept.of_below AL5 (fun _ => False)) id
        have Bk5 : Below w.heap.size w (wk4.alloc (.cells #[.string l2] 9)) := Bk4.trans (AL5.mono Bk4.size)
        have HO19 : Hd (OwnT w.heap.size (wk4.alloc (.cells #[.string l2] 9)) vd1 (([] : List ByteArray) ++ [l0])) := ⟨own_goneP HO4.out AL5⟩
        have NW := one_newT wk4 l2
        refine hK.out _ _ ⟨Ak5, fun _ => trivial⟩ ?_
        clear hK K AL5 Ak4 Bk4
        generalize wk4.alloc (.cells #[.string l2] 9) = wk5 at *
        generalize wk4.heap.size = gk5 at *
        refine AnyG.ready (rs := [10]) (by kernel_rfl) (by simp) ?_
        refine AllG.cons rfl (fun K hK => ?_) AllG.nil
        have szk := Bk5.size
        refine step_append_lies wk5 rfl (.tmp 29) (.tmp 38) 26 rfl w.heap.size 9 i0 (.string ByteArray.empty) 1 16 Tryz.underlying26 hi hz0 hz1 hz2 rfl (by decide) _ _ _ (by simp [Act.eval]) HO19.out ⟨gk5, 0, none⟩ 1 1 [.string l2] (by simp [Act.eval]) rfl NW (one_cellT _) (by decide) (by unfold maxLen; simp) (by simp) szk _ rfl ?_
        intro q8 cap8 w8 hown hgrow hat hlt
        have B8 : Below w.heap.size w w8 := Bk5.grown hgrow szk (fun j hj => (HO19.out.lt j hj).1)
        have A8 : Blk w8 w.heap.size 25 #[.int .i64 C.total, .int .i64 C.period, .int .i64 C.perSeat, .int .i64 C.most, .slice aL nL cL, .slice aS nS cS] := Ak5.kept (Kept.of_grown (S := fun k => Value.ownBlock vd1 = some k) hgrow (fun k e => e)) (fun e => own_neP Ak5 HO19.out (by decide) e)
        refine hK.out _ _ ⟨A8, fun _ => trivial⟩ ?_
        clear hK K
        refine AnyG.putAt 39 rfl ?_
        simp only [List.setIfInBounds_toArray, List.set_cons_zero, List.set_cons_succ]
        refine .tq 11 3 A8 ?_; simp only [tkA, tkB, tkC]
        refine AnyG.done (by kernel_rfl) ?_ _
        have O8 : Hd (OwnT w.heap.size w8 (.slice (some ⟨q8, 0, none⟩) ((([] : List ByteArray) ++ [l0]).length + 1) cap8) ((([] : List ByteArray) ++ [l0]) ++ [l2])) := ⟨OwnT.put hown⟩
        go_wp2_with fail
        go_ret
        exact ⟨_, rfl, by rw [HW.out, if_neg HZ.out.1, if_pos HZ.out.2.1, if_neg HZ.out.2.2]; exact O8.out, B8⟩
    · by_cases z2 : C.perSeat = 0
      · skip
        have zb0 : (C.total != 0) = true := by simp [z0]
        have zb1 : (C.period != 0) = true := by simp [z1]
        have zb2 : (C.perSeat != 0) = false := by simp [z2]
        have HZ : Hd (¬ C.total = 0 ∧ ¬ C.period = 0 ∧ C.perSeat = 0) := ⟨z0, z1, z2⟩
        clear z0 z1 z2
        have c0 := S0.out.1.cellv (v := .int .i64 C.total) 0 rfl
        have c1 := S0.out.1.cellv (v := .int .i64 C.period) 1 rfl
        have c2 := S0.out.1.cellv (v := .int .i64 C.perSeat) 2 rfl
        have c3 := S0.out.1.cellv (v := .int .i64 C.most) 3 rfl
        go_wp2_with fail
        go_at_call 89
        refine (D0.out _ S0.out.2.2).mono ?_
        rintro e wa1 ⟨rfl, ba1⟩
        go_wp2_with fail
        go_at_call 88
        refine (L0.out wa1).mono ?_
        rintro e wb1 ⟨rfl, bb1⟩
        have bc1 : Below w1.heap.size w1 wb1 := ba1.trans ((alloc_below wa1 (.cells #[.string ⟨#[116, 111, 116, 97, 108]⟩, .string g0] 9)).mono ba1.size |>.trans (bb1.mono (Nat.le_trans ba1.size (alloc_below wa1 (.cells #[.string ⟨#[116, 111, 116, 97, 108]⟩, .string g0] 9)).size)))
        have S1 : Hd (Blk wb1 w.heap.size 25 #[.int .i64 C.total, .int .i64 C.period, .int .i64 C.perSeat, .int .i64 C.most, .slice aL nL cL, .slice aS nS cS] ∧ OwnT w.heap.size wb1 (Value.slice none 0 0) ([] : List ByteArray) ∧ Below w.heap.size w wb1) := ⟨S0.out.1.kept (Kept.of_below bc1 (fun _ => False)) id, own_goneP S0.out.2.1 bc1, S0.out.2.2.trans (bc1.mono S0.out.2.2.size)⟩
        have sz1 := S1.out.2.2.size
        clear ba1 bb1 bc1 c0 c1 c2 c3
        go_wp2_with (at_builtin; refine wpList_append_own _ rfl _ _ 26 rfl w.heap.size 9 i0 (.string ByteArray.empty) 1 16 Tryz.underlying26 hi hz0 hz1 hz2 rfl (by decide) _ _ _ rfl (S1.out.2.1.alloc _) ⟨wb1.heap.size, 0, none⟩ 1 1 [.string l0] rfl rfl (one_newT _ _) (one_cellT _) (by unfold maxLen; simp) (by simp) (by simp; omega) ?_; intro vd1 wd1 hown1 hgrow1 _; have P1 : Hd (Blk wd1 w.heap.size 25 #[.int .i64 C.total, .int .i64 C.period, .int .i64 C.perSeat, .int .i64 C.most, .slice aL nL cL, .slice aS nS cS] ∧ OwnT w.heap.size wd1 vd1 (([] : List ByteArray) ++ [l0]) ∧ Below w.heap.size w wd1) := ⟨(S1.out.1.kept (Kept.of_below (alloc_below _ _) (fun _ => False)) id).kept (Kept.of_grown (S := fun k => Value.ownBlock (Value.slice none 0 0) = some k) hgrow1 (fun k e => e)) (fun e => own_neP S1.out.1 S1.out.2.1 (by decide) e), OwnT.put hown1, (S1.out.2.2.alloc sz1 _).grown hgrow1 (by simp; omega) (fun j hj => (S1.out.2.1.lt j hj).1)⟩; have c1 := P1.out.1.cellv (v := .int .i64 C.period) 1 rfl; have c2 := P1.out.1.cellv (v := .int .i64 C.perSeat) 2 rfl; have c3 := P1.out.1.cellv (v := .int .i64 C.most) 3 rfl; have c0 := P1.out.1.cellv (v := .int .i64 C.total) 0 rfl)
        clear hown1 hgrow1 sz1
        go_at_call 89
        refine (D1.out _ P1.out.2.2).mono ?_
        rintro e wa2 ⟨rfl, ba2⟩
        go_wp2_with fail
        go_at_call 88
        refine (L1.out wa2).mono ?_
        rintro e wb2 ⟨rfl, bb2⟩
        have bc2 : Below wd1.heap.size wd1 wb2 := ba2.trans ((alloc_below wa2 (.cells #[.string ⟨#[112, 101, 114, 105, 111, 100]⟩, .string g1] 9)).mono ba2.size |>.trans (bb2.mono (Nat.le_trans ba2.size (alloc_below wa2 (.cells #[.string ⟨#[112, 101, 114, 105, 111, 100]⟩, .string g1] 9)).size)))
        have S2 : Hd (Blk wb2 w.heap.size 25 #[.int .i64 C.total, .int .i64 C.period, .int .i64 C.perSeat, .int .i64 C.most, .slice aL nL cL, .slice aS nS cS] ∧ OwnT w.heap.size wb2 vd1 (([] : List ByteArray) ++ [l0]) ∧ Below w.heap.size w wb2) := ⟨P1.out.1.kept (Kept.of_below bc2 (fun _ => False)) id, own_goneP P1.out.2.1 bc2, P1.out.2.2.trans (bc2.mono P1.out.2.2.size)⟩
        have sz2 := S2.out.2.2.size
        clear ba2 bb2 bc2 c0 c1 c2 c3
        go_wp2_with (at_builtin; refine wpList_append_own _ rfl _ _ 26 rfl w.heap.size 9 i0 (.string ByteArray.empty) 1 16 Tryz.underlying26 hi hz0 hz1 hz2 rfl (by decide) _ _ _ rfl (S2.out.2.1.alloc _) ⟨wb2.heap.size, 0, none⟩ 1 1 [.string l1] rfl rfl (one_newT _ _) (one_cellT _) (by unfold maxLen; simp) (by simp) (by simp; omega) ?_; intro vd2 wd2 hown2 hgrow2 _; have P2 : Hd (Blk wd2 w.heap.size 25 #[.int .i64 C.total, .int .i64 C.period, .int .i64 C.perSeat, .int .i64 C.most, .slice aL nL cL, .slice aS nS cS] ∧ OwnT w.heap.size wd2 vd2 ((([] : List ByteArray) ++ [l0]) ++ [l1]) ∧ Below w.heap.size w wd2) := ⟨(S2.out.1.kept (Kept.of_below (alloc_below _ _) (fun _ => False)) id).kept (Kept.of_grown (S := fun k => Value.ownBlock vd1 = some k) hgrow2 (fun k e => e)) (fun e => own_neP S2.out.1 S2.out.2.1 (by decide) e), OwnT.put hown2, (S2.out.2.2.alloc sz2 _).grown hgrow2 (by simp; omega) (fun j hj => (S2.out.2.1.lt j hj).1)⟩; have c1 := P2.out.1.cellv (v := .int .i64 C.period) 1 rfl; have c2 := P2.out.1.cellv (v := .int .i64 C.perSeat) 2 rfl; have c3 := P2.out.1.cellv (v := .int .i64 C.most) 3 rfl; have c0 := P2.out.1.cellv (v := .int .i64 C.total) 0 rfl)
        clear hown2 hgrow2 sz2
        go_ret
        exact ⟨_, rfl, by rw [HW.out, if_neg HZ.out.1, if_neg HZ.out.2.1, if_pos HZ.out.2.2]; exact P2.out.2.1, P2.out.2.2⟩
      · skip
        have zb0 : (C.total != 0) = true := by simp [z0]
        have zb1 : (C.period != 0) = true := by simp [z1]
        have zb2 : (C.perSeat != 0) = true := by simp [z2]
        have HZ : Hd (¬ C.total = 0 ∧ ¬ C.period = 0 ∧ ¬ C.perSeat = 0) := ⟨z0, z1, z2⟩
        clear z0 z1 z2
        have c0 := S0.out.1.cellv (v := .int .i64 C.total) 0 rfl
        have c1 := S0.out.1.cellv (v := .int .i64 C.period) 1 rfl
        have c2 := S0.out.1.cellv (v := .int .i64 C.perSeat) 2 rfl
        have c3 := S0.out.1.cellv (v := .int .i64 C.most) 3 rfl
        go_wp2_with fail
        go_at_call 89
        refine (D0.out _ S0.out.2.2).mono ?_
        rintro e wa1 ⟨rfl, ba1⟩
        go_wp2_with fail
        go_at_call 88
        refine (L0.out wa1).mono ?_
        rintro e wb1 ⟨rfl, bb1⟩
        have bc1 : Below w1.heap.size w1 wb1 := ba1.trans ((alloc_below wa1 (.cells #[.string ⟨#[116, 111, 116, 97, 108]⟩, .string g0] 9)).mono ba1.size |>.trans (bb1.mono (Nat.le_trans ba1.size (alloc_below wa1 (.cells #[.string ⟨#[116, 111, 116, 97, 108]⟩, .string g0] 9)).size)))
        have S1 : Hd (Blk wb1 w.heap.size 25 #[.int .i64 C.total, .int .i64 C.period, .int .i64 C.perSeat, .int .i64 C.most, .slice aL nL cL, .slice aS nS cS] ∧ OwnT w.heap.size wb1 (Value.slice none 0 0) ([] : List ByteArray) ∧ Below w.heap.size w wb1) := ⟨S0.out.1.kept (Kept.of_below bc1 (fun _ => False)) id, own_goneP S0.out.2.1 bc1, S0.out.2.2.trans (bc1.mono S0.out.2.2.size)⟩
        have sz1 := S1.out.2.2.size
        clear ba1 bb1 bc1 c0 c1 c2 c3
        go_wp2_with (at_builtin; refine wpList_append_own _ rfl _ _ 26 rfl w.heap.size 9 i0 (.string ByteArray.empty) 1 16 Tryz.underlying26 hi hz0 hz1 hz2 rfl (by decide) _ _ _ rfl (S1.out.2.1.alloc _) ⟨wb1.heap.size, 0, none⟩ 1 1 [.string l0] rfl rfl (one_newT _ _) (one_cellT _) (by unfold maxLen; simp) (by simp) (by simp; omega) ?_; intro vd1 wd1 hown1 hgrow1 _; have P1 : Hd (Blk wd1 w.heap.size 25 #[.int .i64 C.total, .int .i64 C.period, .int .i64 C.perSeat, .int .i64 C.most, .slice aL nL cL, .slice aS nS cS] ∧ OwnT w.heap.size wd1 vd1 (([] : List ByteArray) ++ [l0]) ∧ Below w.heap.size w wd1) := ⟨(S1.out.1.kept (Kept.of_below (alloc_below _ _) (fun _ => False)) id).kept (Kept.of_grown (S := fun k => Value.ownBlock (Value.slice none 0 0) = some k) hgrow1 (fun k e => e)) (fun e => own_neP S1.out.1 S1.out.2.1 (by decide) e), OwnT.put hown1, (S1.out.2.2.alloc sz1 _).grown hgrow1 (by simp; omega) (fun j hj => (S1.out.2.1.lt j hj).1)⟩; have c1 := P1.out.1.cellv (v := .int .i64 C.period) 1 rfl; have c2 := P1.out.1.cellv (v := .int .i64 C.perSeat) 2 rfl; have c3 := P1.out.1.cellv (v := .int .i64 C.most) 3 rfl; have c0 := P1.out.1.cellv (v := .int .i64 C.total) 0 rfl)
        clear hown1 hgrow1 sz1
        go_at_call 89
        refine (D1.out _ P1.out.2.2).mono ?_
        rintro e wa2 ⟨rfl, ba2⟩
        go_wp2_with fail
        go_at_call 88
        refine (L1.out wa2).mono ?_
        rintro e wb2 ⟨rfl, bb2⟩
        have bc2 : Below wd1.heap.size wd1 wb2 := ba2.trans ((alloc_below wa2 (.cells #[.string ⟨#[112, 101, 114, 105, 111, 100]⟩, .string g1] 9)).mono ba2.size |>.trans (bb2.mono (Nat.le_trans ba2.size (alloc_below wa2 (.cells #[.string ⟨#[112, 101, 114, 105, 111, 100]⟩, .string g1] 9)).size)))
        have S2 : Hd (Blk wb2 w.heap.size 25 #[.int .i64 C.total, .int .i64 C.period, .int .i64 C.perSeat, .int .i64 C.most, .slice aL nL cL, .slice aS nS cS] ∧ OwnT w.heap.size wb2 vd1 (([] : List ByteArray) ++ [l0]) ∧ Below w.heap.size w wb2) := ⟨P1.out.1.kept (Kept.of_below bc2 (fun _ => False)) id, own_goneP P1.out.2.1 bc2, P1.out.2.2.trans (bc2.mono P1.out.2.2.size)⟩
        have sz2 := S2.out.2.2.size
        clear ba2 bb2 bc2 c0 c1 c2 c3
        go_wp2_with (at_builtin; refine wpList_append_own _ rfl _ _ 26 rfl w.heap.size 9 i0 (.string ByteArray.empty) 1 16 Tryz.underlying26 hi hz0 hz1 hz2 rfl (by decide) _ _ _ rfl (S2.out.2.1.alloc _) ⟨wb2.heap.size, 0, none⟩ 1 1 [.string l1] rfl rfl (one_newT _ _) (one_cellT _) (by unfold maxLen; simp) (by simp) (by simp; omega) ?_; intro vd2 wd2 hown2 hgrow2 _; have P2 : Hd (Blk wd2 w.heap.size 25 #[.int .i64 C.total, .int .i64 C.period, .int .i64 C.perSeat, .int .i64 C.most, .slice aL nL cL, .slice aS nS cS] ∧ OwnT w.heap.size wd2 vd2 ((([] : List ByteArray) ++ [l0]) ++ [l1]) ∧ Below w.heap.size w wd2) := ⟨(S2.out.1.kept (Kept.of_below (alloc_below _ _) (fun _ => False)) id).kept (Kept.of_grown (S := fun k => Value.ownBlock vd1 = some k) hgrow2 (fun k e => e)) (fun e => own_neP S2.out.1 S2.out.2.1 (by decide) e), OwnT.put hown2, (S2.out.2.2.alloc sz2 _).grown hgrow2 (by simp; omega) (fun j hj => (S2.out.2.1.lt j hj).1)⟩; have c1 := P2.out.1.cellv (v := .int .i64 C.period) 1 rfl; have c2 := P2.out.1.cellv (v := .int .i64 C.perSeat) 2 rfl; have c3 := P2.out.1.cellv (v := .int .i64 C.most) 3 rfl; have c0 := P2.out.1.cellv (v := .int .i64 C.total) 0 rfl)
        clear hown2 hgrow2 sz2
        have DR : Below wd2.heap.size wd2 wd2.drew := ⟨rfl, rfl, rfl, Nat.le_refl _, fun _ _ => rfl⟩
        have A0 := P2.out.1.kept (Kept.of_below DR (fun _ => False)) id
        have B0 : Below w.heap.size w wd2.drew := P2.out.2.2.trans (DR.mono P2.out.2.2.size)
        have HO0 : Hd (OwnT w.heap.size wd2.drew vd2 ((([] : List ByteArray) ++ [l0]) ++ [l1])) := ⟨own_goneP P2.out.2.1 DR⟩
        refine AnyG.start (T := fun w' => Blk w' w.heap.size 25 #[.int .i64 C.total, .int .i64 C.period, .int .i64 C.perSeat, .int .i64 C.most, .slice aL nL cL, .slice aS nS cS]) (U := fun _ => True) (j0 := 100) (by kernel_rfl) ?_
        clear DR c0 c1 c2 c3
        generalize wd2.drew = w0 at *
        refine .tq 0 29 A0 ?_; simp only [tkA, tkB, tkC]
        refine .tq 1 30 A0 ?_; simp only [tkA, tkB, tkC]
        refine .tq 2 31 A0 ?_ (hy := fun w hSw => by have s4 := hSw.cellv (v := .int .i64 C.perSeat) 2 rfl; go_simp; rfl); simp only [tkA, tkB, tkC]
        refine .tq 4 33 A0 ?_; simp only [tkA, tkB, tkC]
        refine .tq 5 34 A0 ?_ (hy := fun w hSw => by have s4 := hSw.cellv (v := .int .i64 C.most) 3 rfl; go_simp; rfl); simp only [tkA, tkB, tkC]
        refine AnyG.ready (rs := [3]) (by kernel_rfl) (by simp) ?_
        refine AllG.cons rfl (fun K hK => ?_) AllG.nil
        go_simp
        refine (D2.out w0 B0).mono ?_
        rintro e wk1 ⟨rfl, b1⟩
        have HO1 : Hd (OwnT w.heap.size wk1 vd2 ((([] : List ByteArray) ++ [l0]) ++ [l1])) := ⟨own_goneP HO0.out b1⟩
        have Ak1 := A0.kept (Kept.of_below b1 (fun _ => False)) id
        have Bk1 : Below w.heap.size w wk1 := B0.trans (b1.mono B0.size)
        refine hK.out _ _ ⟨Ak1, fun _ => trivial⟩ ?_
        clear hK K b1 A0 B0
        refine AnyG.ready (rs := [6]) (by kernel_rfl) (by simp) ?_
        refine AllG.cons rfl (fun K hK => ?_) AllG.nil
        go_simp
        refine (D3.out wk1 Bk1).mono ?_
        rintro e wk2 ⟨rfl, b2⟩
        have HO2 : Hd (OwnT w.heap.size wk2 vd2 ((([] : List ByteArray) ++ [l0]) ++ [l1])) := ⟨own_goneP HO1.out b2⟩
        have Ak2 := Ak1.kept (Kept.of_below b2 (fun _ => False)) id
        have Bk2 : Below w.heap.size w wk2 := Bk1.trans (b2.mono Bk1.size)
        refine hK.out _ _ ⟨Ak2, fun _ => trivial⟩ ?_
        clear hK K b2 Ak1 Bk1
        have LL := L2.out wk2
        refine AnyG.ready (rs := [7]) (by kernel_rfl) (by simp) ?_
        refine AllG.cons rfl (fun K hK => ?_) AllG.nil
        go_simp
        have AL3 := alloc_below wk2 (.cells #[.string ⟨#[115, 101, 97, 116, 115]⟩, .string g2, .string g3] 9)
        have Ak3 := Ak2.kept (Kept.of_below AL3 (fun _ => False)) id
        have Bk3 : Below w.heap.size w (wk2.alloc (.cells #[.string ⟨#[115, 101, 97, 116, 115]⟩, .string g2, .string g3] 9)) := Bk2.trans (AL3.mono Bk2.size)
        have HO9 : Hd (OwnT w.heap.size (wk2.alloc (.cells #[.string ⟨#[115, 101, 97, 116, 115]⟩, .string g2, .string g3] 9)) vd2 ((([] : List ByteArray) ++ [l0]) ++ [l1])) := ⟨own_goneP HO2.out AL3⟩
        refine hK.out _ _ ⟨Ak3, fun _ => trivial⟩ ?_
        clear hK K AL3 Ak2 Bk2
        generalize wk2.alloc (.cells #[.string ⟨#[115, 101, 97, 116, 115]⟩, .string g2, .string g3] 9) = wk3 at *
        generalize wk2.heap.size = gk3 at *
        refine AnyG.ready (rs := [8]) (by kernel_rfl) (by simp) ?_
        refine AllG.cons rfl (fun K hK => ?_) AllG.nil
        go_simp
        refine (LL).mono ?_
        rintro e wk4 ⟨rfl, b4⟩
        have HO4 : Hd (OwnT w.heap.size wk4 vd2 ((([] : List ByteArray) ++ [l0]) ++ [l1])) := ⟨own_goneP HO9.out b4⟩
        have Ak4 := Ak3.kept (Kept.of_below b4 (fun _ => False)) id
        have Bk4 : Below w.heap.size w wk4 := Bk3.trans (b4.mono Bk3.size)
        refine hK.out _ _ ⟨Ak4, fun _ => trivial⟩ ?_
        clear hK K b4 Ak3 Bk3
        refine AnyG.ready (rs := [9]) (by kernel_rfl) (by simp) ?_
        refine AllG.cons rfl (fun K hK => ?_) AllG.nil
        go_simp
        have AL5 := alloc_below wk4 (.cells #[.string l2] 9)
        have Ak5 := Ak4.kept (Kept.of_below AL5 (fun _ => False)) id
        have Bk5 : Below w.heap.size w (wk4.alloc (.cells #[.string l2] 9)) := Bk4.trans (AL5.mono Bk4.size)
        have HO19 : Hd (OwnT w.heap.size (wk4.alloc (.cells #[.string l2] 9)) vd2 ((([] : List ByteArray) ++ [l0]) ++ [l1])) := ⟨own_goneP HO4.out AL5⟩
        have NW := one_newT wk4 l2
        refine hK.out _ _ ⟨Ak5, fun _ => trivial⟩ ?_
        clear hK K AL5 Ak4 Bk4
        generalize wk4.alloc (.cells #[.string l2] 9) = wk5 at *
        generalize wk4.heap.size = gk5 at *
        refine AnyG.ready (rs := [10]) (by kernel_rfl) (by simp) ?_
        refine AllG.cons rfl (fun K hK => ?_) AllG.nil
        have szk := Bk5.size
        refine step_append_lies wk5 rfl (.tmp 29) (.tmp 38) 26 rfl w.heap.size 9 i0 (.string ByteArray.empty) 1 16 Tryz.underlying26 hi hz0 hz1 hz2 rfl (by decide) _ _ _ (by simp [Act.eval]) HO19.out ⟨gk5, 0, none⟩ 1 1 [.string l2] (by simp [Act.eval]) rfl NW (one_cellT _) (by decide) (by unfold maxLen; simp) (by simp) szk _ rfl ?_
        intro q8 cap8 w8 hown hgrow hat hlt
        have B8 : Below w.heap.size w w8 := Bk5.grown hgrow szk (fun j hj => (HO19.out.lt j hj).1)
        have A8 : Blk w8 w.heap.size 25 #[.int .i64 C.total, .int .i64 C.period, .int .i64 C.perSeat, .int .i64 C.most, .slice aL nL cL, .slice aS nS cS] := Ak5.kept (Kept.of_grown (S := fun k => Value.ownBlock vd2 = some k) hgrow (fun k e => e)) (fun e => own_neP Ak5 HO19.out (by decide) e)
        refine hK.out _ _ ⟨A8, fun _ => trivial⟩ ?_
        clear hK K
        refine AnyG.putAt 39 rfl ?_
        simp only [List.setIfInBounds_toArray, List.set_cons_zero, List.set_cons_succ]
        refine .tq 11 3 A8 ?_; simp only [tkA, tkB, tkC]
        refine AnyG.done (by kernel_rfl) ?_ _
        have O8 : Hd (OwnT w.heap.size w8 (.slice (some ⟨q8, 0, none⟩) (((([] : List ByteArray) ++ [l0]) ++ [l1]).length + 1) cap8) (((([] : List ByteArray) ++ [l0]) ++ [l1]) ++ [l2])) := ⟨OwnT.put hown⟩
        go_wp2_with fail
        go_ret
        exact ⟨_, rfl, by rw [HW.out, if_neg HZ.out.1, if_neg HZ.out.2.1, if_neg HZ.out.2.2]; exact O8.out, B8⟩
end Go.Proofs.YtijjpblmnlednaaGreatDoor
