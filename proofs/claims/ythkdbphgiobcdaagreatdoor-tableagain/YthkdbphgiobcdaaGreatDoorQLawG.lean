/-
  The walk of 'TableAgain'. Conditions: the configuration lies in memory; the library's table of powers is laid.
-/
import Derived.Test.YthkdbphgiobcdaaGreatDoorB42
import Derived.Test.YthkdbphgiobcdaaGreatDoorB17
import Derived.Test.YthkdbphgiobcdaaGreatDoorB18
import Derived.BigQuiet
import Derived.Laws.Cover1
namespace Go.Proofs.YthkdbphgiobcdaaGreatDoor
open Go.RowKit

theorem Blk.seven {w : World} {b t : Nat} {v0 v1 v2 v3 v4 v5 v6 : Value} (h : Blk w b t #[v0, v1, v2, v3, v4, v5, v6]) :
    w.cell? ⟨b, 0, none⟩ = some v0 ∧ w.cell? ⟨b, 1, none⟩ = some v1 ∧ w.cell? ⟨b, 2, none⟩ = some v2 ∧ w.cell? ⟨b, 3, none⟩ = some v3 ∧ w.cell? ⟨b, 4, none⟩ = some v4 ∧ w.cell? ⟨b, 5, none⟩ = some v5 ∧ w.cell? ⟨b, 6, none⟩ = some v6 :=
  ⟨h.cellv 0 rfl, h.cellv 1 rfl, h.cellv 2 rfl, h.cellv 3 rfl, h.cellv 4 rfl, h.cellv 5 rfl, h.cellv 6 rfl⟩
theorem mk_bnd {n : Nat} {C : Cf} (h : Bnd n C) : Bnd (n + 2) (mkC C) := by
  unfold mkC
  split
  · exact (fillC_bnd h).turn (srtB_perm _) (srtB_perm _)
  · exact ⟨Nat.zero_le _, Nat.zero_le _, fun s hs => absurd hs (by intro h; cases h)⟩
def DrG (w W : World) : Prop := ∃ n, W = w.drewN n
theorem DrG.cell {w W : World} (h : DrG w W) {p : Addr} {v : Value} (hc : w.cell? p = some v) : W.cell? p = some v := by
  obtain ⟨n, rfl⟩ := h
  exact hc
theorem DrG.more {w W : World} (h : DrG w W) (m : Nat) : DrG w (W.drewN m) := by
  obtain ⟨n, rfl⟩ := h
  exact ⟨n + m, by rw [World.drewN_drewN]⟩
theorem DrG.blk {w W : World} (h : DrG w W) {b t : Nat} {cs : Array Value} (hc : Blk w b t cs) : Blk W b t cs := by
  obtain ⟨n, rfl⟩ := h
  exact hc
theorem DrG.below {w W : World} (h : DrG w W) : Below w.heap.size w W := by
  obtain ⟨n, rfl⟩ := h
  exact ⟨rfl, rfl, rfl, Nat.le_refl _, fun _ _ => rfl⟩
theorem errV_zero {p : Int × ByteArray} (h : p.1 = 0) : errV p = .nilIface := if_pos h

set_option maxRecDepth 20000 in
set_option maxHeartbeats 16000000 in
theorem again_ok (v : Value) (C : Cf) (w : World) (h : CfR w v C) (hT : Tab w) : Calls Tryz.prog 5 #[v] w fun e w' => e = .returned (.bool true) ∧ Below w.heap.size w w' := by
  have HC : Hd (CfR w v C) := ⟨h⟩
  have HT : Hd (Tab w) := ⟨hT⟩
  obtain ⟨aL, cL, aS, cS, V, rfl, -, -, -, -, -, -⟩ := h.ex
  clear h hT
  have HS : Hd (∀ W, Below w.heap.size w W → Calls Tryz.prog 8 #[.agg #[.int .i64 C.total, .int .i64 C.period, .int .i64 C.perSeat, .int .i64 C.most, .slice aL C.levels.length cL, .slice aS C.schemas.length cS]] W fun e w' => IsB C e ∧ Below W.heap.size W w') := ⟨fun W b => small_any _ C W (HC.out.carry b)⟩
  have HM : Hd (∀ W, Below w.heap.size w W → Bnd 80 C → Calls Tryz.prog 10 #[.agg #[.int .i64 C.total, .int .i64 C.period, .int .i64 C.perSeat, .int .i64 C.most, .slice aL C.levels.length cL, .slice aS C.schemas.length cS]] W fun e w' => Mk W C e w') := ⟨fun W b hb => make_ok _ C W (HC.out.carry b) (hb.mono (by omega)) (HT.out.stays b)⟩
  clear HC
  generalize C.levels.length = nL at *
  generalize C.schemas.length = nS at *
  generalize C.total = x0 at *
  generalize C.period = x1 at *
  generalize C.perSeat = x2 at *
  generalize C.most = x3 at *
  have B0 : Hd (Below w.heap.size w (w.alloc (.cells #[.int .i64 x0, .int .i64 x1, .int .i64 x2, .int .i64 x3, .slice aL nL cL, .slice aS nS cS] 25))) := ⟨alloc_below w _⟩
  have F0 : Hd (Blk (w.alloc (.cells #[.int .i64 x0, .int .i64 x1, .int .i64 x2, .int .i64 x3, .slice aL nL cL, .slice aS nS cS] 25)) w.heap.size 25 #[.int .i64 x0, .int .i64 x1, .int .i64 x2, .int .i64 x3, .slice aL nL cL, .slice aS nS cS]) := ⟨Blk.new w 25 _⟩
  go_enter Tryz.func5, Tryz.ntmps5
  go_wp2_with fail
  generalize w.alloc _ = w0 at *
  go_at_call 7
  refine (awake_ok w0 (HT.out.stays B0.out)).mono ?_
  rintro e w1 ⟨rfl, b1⟩
  have B1 : Hd (Below w.heap.size w w1) := ⟨B0.out.trans (b1.mono B0.out.size)⟩
  have F1 : Hd (Blk w1 w.heap.size 25 _) := ⟨F0.out.kept (Kept.of_below b1 (fun _ => False)) id⟩
  clear b1 B0 F0
  obtain ⟨⟨l0, l1, l2, l3, l4, l5⟩, -⟩ := F1.out.sixP
  go_wp2_with fail
  go_at_call 8
  refine (HS.out w1 B1.out).mono ?_
  rintro e w2 ⟨⟨b, rfl, hb⟩, b2⟩
  have B2 : Hd (Below w.heap.size w w2) := ⟨B1.out.trans (b2.mono B1.out.size)⟩
  have F2 : Hd (Blk w2 w.heap.size 25 _) := ⟨F1.out.kept (Kept.of_below b2 (fun _ => False)) id⟩
  clear l0 l1 l2 l3 l4 l5 b2 B1 F1 HS
  obtain ⟨⟨l0, l1, l2, l3, l4, l5⟩, -⟩ := F2.out.sixP
  cases b with
  | false =>
    clear hb
    go_wp2_with fail
    go_ret
    exact ⟨rfl, B2.out⟩
  | true =>
    have HB : Hd (Bnd 80 C) := ⟨hb rfl⟩
    clear hb
    go_wp2_with fail
    go_at_call 10
    refine (HM.out w2 B2.out HB.out).mono ?_
    rintro e w3 ⟨⟨vL, vS, rfl, hR⟩, b3⟩
    have B3 : Hd (Below w.heap.size w w3) := ⟨B2.out.trans (b3.mono B2.out.size)⟩
    clear l0 l1 l2 l3 l4 l5 F2 B2 b3
    by_cases hz : (mkE C).1 = 0
    · rw [errV_zero hz]
      have eC : mkC C = tblC C := if_pos hz
      obtain ⟨a1, a2, a3⟩ := mk_again hz
      have hp := (mkE_ok hz).1
      have HE1 : Hd (mkE (mkC C) = (0, ⟨#[]⟩) ∧ mkC (mkC C) = mkC C ∧ mkD (mkC C) = mkD C) := ⟨by rw [eC]; exact ⟨a1, a2, a3⟩⟩
      have HSL : Hd ((mkC C).levels.Pairwise fun a b => ltL a b = true) := ⟨by rw [eC]; exact srtB_sorted strictL _ hp.aptL⟩
      have HSS : Hd ((mkC C).schemas.Pairwise fun a b => ltS a b = true) := ⟨by rw [eC]; exact srtB_sorted strictS _ hp.aptS⟩
      have HB2 : Hd (Bnd 82 (mkC C)) := ⟨mk_bnd HB.out⟩
      clear hz a1 a2 a3 hp HM eC
      generalize mkD C = dg at *
      generalize mkC C = E at *
      obtain ⟨bL, dL, bS, dS, V3, ev, -, -, hL3, hV3, hS3, -⟩ := hR.ex
      cases ev
      have HR : Hd (CfR w3 _ E) := ⟨hR⟩
      have HL3 : Hd (LvR w3 bL E.levels) := ⟨hL3⟩
      have HS3 : Hd (ScR w3 bS E.schemas V3 ∧ V3.length = E.schemas.length) := ⟨hS3, hV3⟩
      clear hR hL3 hS3 hV3
      have A4 : Hd (Below w3.heap.size w3 (w3.alloc (.cells #[.int .i64 E.total, .int .i64 E.period, .int .i64 E.perSeat, .int .i64 E.most, .slice bL E.levels.length dL, .slice bS E.schemas.length dS, .int .u64 dg] 31))) := ⟨alloc_below w3 _⟩
      have T4 : Hd (Blk (w3.alloc (.cells #[.int .i64 E.total, .int .i64 E.period, .int .i64 E.perSeat, .int .i64 E.most, .slice bL E.levels.length dL, .slice bS E.schemas.length dS, .int .u64 dg] 31)) w3.heap.size 31 #[.int .i64 E.total, .int .i64 E.period, .int .i64 E.perSeat, .int .i64 E.most, .slice bL E.levels.length dL, .slice bS E.schemas.length dS, .int .u64 dg]) := ⟨Blk.new w3 31 _⟩
      go_wp2_with fail
      generalize w3.alloc _ = w4 at *
      have B4 : Hd (Below w.heap.size w w4) := ⟨B3.out.trans (A4.out.mono B3.out.size)⟩
      have L4 : Hd (LvR w4 bL E.levels) := ⟨HL3.out.carry A4.out⟩
      have S4 : Hd (ScR w4 bS E.schemas V3) := ⟨HS3.out.1.carry A4.out⟩
      have R4 : Hd (CfR w4 _ E) := ⟨HR.out.carry A4.out⟩
      generalize w3.heap.size = g3 at *
      clear HL3 HR B3 A4
      obtain ⟨z0, z1, z2, z3, z4, z5, z6⟩ := T4.out.seven
      go_wp2_with fail
      go_at_call 10
      refine (make_ok _ E w4 R4.out (HB2.out.mono (by omega)) (HT.out.stays B4.out)).mono ?_
      rintro e w5 ⟨⟨vL2, vS2, rfl, hR5⟩, b5⟩
      rw [HE1.out.2.1] at hR5
      rw [HE1.out.1, errV_nil, HE1.out.2.1, HE1.out.2.2]
      obtain ⟨eL, fL, eS, fS, V5, ev, -, -, -, -, -, -⟩ := hR5.ex
      cases ev
      have A6 : Hd (Below w5.heap.size w5 (w5.alloc (.cells #[.int .i64 E.total, .int .i64 E.period, .int .i64 E.perSeat, .int .i64 E.most, .slice eL E.levels.length fL, .slice eS E.schemas.length fS, .int .u64 dg] 31))) := ⟨alloc_below w5 _⟩
      have T6 : Hd (Blk (w5.alloc (.cells #[.int .i64 E.total, .int .i64 E.period, .int .i64 E.perSeat, .int .i64 E.most, .slice eL E.levels.length fL, .slice eS E.schemas.length fS, .int .u64 dg] 31)) w5.heap.size 31 #[.int .i64 E.total, .int .i64 E.period, .int .i64 E.perSeat, .int .i64 E.most, .slice eL E.levels.length fL, .slice eS E.schemas.length fS, .int .u64 dg]) := ⟨Blk.new w5 31 _⟩
      have HR5 : Hd (CfR w5 (.agg #[.int .i64 E.total, .int .i64 E.period, .int .i64 E.perSeat, .int .i64 E.most, .slice eL E.levels.length fL, .slice eS E.schemas.length fS]) E) := ⟨hR5⟩
      have HB5 : Hd (Below w4.heap.size w4 w5) := ⟨b5⟩
      clear z0 z1 z2 z3 z4 z5 z6 hR5 b5
      go_upto_region 9 with fail
      generalize w5.alloc _ = w6 at *
      have b46 : Below w4.heap.size w4 w6 := HB5.out.trans (A6.out.mono HB5.out.size)
      have B6 : Hd (Below w.heap.size w w6) := ⟨B4.out.trans (b46.mono B4.out.size)⟩
      have T4' : Hd (Blk w6 g3 31 #[.int .i64 E.total, .int .i64 E.period, .int .i64 E.perSeat, .int .i64 E.most, .slice bL E.levels.length dL, .slice bS E.schemas.length dS, .int .u64 dg]) := ⟨T4.out.kept (Kept.of_below b46 (fun _ => False)) id⟩
      have L6 : Hd (LvR w6 bL E.levels) := ⟨L4.out.carry b46⟩
      have S6 : Hd (ScR w6 bS E.schemas V3 ∧ V3.length = E.schemas.length) := ⟨S4.out.carry b46, HS3.out.2⟩
      have RA : Hd (CfR w6 (.agg #[.int .i64 E.total, .int .i64 E.period, .int .i64 E.perSeat, .int .i64 E.most, .slice bL E.levels.length dL, .slice bS E.schemas.length dS]) E) := ⟨R4.out.carry b46⟩
      have RB : Hd (CfR w6 (.agg #[.int .i64 E.total, .int .i64 E.period, .int .i64 E.perSeat, .int .i64 E.most, .slice eL E.levels.length fL, .slice eS E.schemas.length fS]) E) := ⟨HR5.out.carry A6.out⟩
      clear A6 HR5 HB5 T4 L4 S4 R4 HS3 B4 b46
      generalize w5.heap.size = g5 at *
      obtain ⟨z0, z1, z2, z3, z4, z5, z6⟩ := T4'.out.seven
      go_quiet (fail)
      go_wp2_with fail
      clear z0 z1 z2 z3 z4 z5 z6
      go_loopw [9] (fun i wr => ∃ k : Nat, k ≤ E.levels.length ∧ i = .int .i64 ((k : Int) + 1) ∧ Hd (DrG w6 wr)) (fun i _ => E.levels.length + 1 - (intOf i).toNat)
      case atStart => exact ⟨0, Nat.zero_le _, rfl, ⟨_, rfl⟩⟩
      case round =>
        obtain ⟨k, hk, rfl, hd⟩ := hrel
        have hn9 : E.levels.length ≤ 100 := by have := HB2.out.lv; omega
        by_cases hlt : k + 1 < E.levels.length
        · obtain ⟨b, off, rfl, hb, hc⟩ := L6.out (by omega)
          have q0 : wr.cell? ⟨b, off + k * 10, none⟩ = some (.string E.levels[k].name) := hd.out.cell (hc k (by omega) 0 (by decide))
          have q1 : wr.cell? ⟨b, off + (k + 1) * 10, none⟩ = some (.string E.levels[k + 1].name) := hd.out.cell (hc (k + 1) hlt 0 (by decide))
          have q2 : Op.bytesLess E.levels[k].name.toList E.levels[k + 1].name.toList = true := by rw [txLt_of]; exact (List.pairwise_iff_getElem.1 HSL.out) k (k + 1) (by omega) hlt (by omega)
          have q3 : (((k + 1 : Nat) : Int)) = (k : Int) + 1 := by omega
          have hi : (k : Int) + 1 < (E.levels.length : Int) := by omega
          have HI : Hd (k + 1 < E.levels.length) := ⟨hlt⟩
          clear hc hb
          generalize E.levels[k].name = n1 at *
          generalize E.levels[k + 1].name = n2 at *
          have q4 : IntKind.i64.wrap ((k : Int) + 1 - 1) = (k : Int) := by rw [IntKind.wrap_i64]; omega
          go_wp2_with fail
          go_big_quiet (fail)
          go_wp2_with fail
          go_roundw
          case rel => exact ⟨k + 1, by have := HI.out; omega, by go_num, ⟨hd.out.more _⟩⟩
          case measure => have := HI.out; simp [intOf]; omega
        · have hi : ¬ ((k : Int) + 1 < (E.levels.length : Int)) := by omega
          go_wp2_with fail
          go_loopw [10] (fun i wr => ∃ k : Nat, k ≤ E.schemas.length ∧ i = .int .i64 ((k : Int) + 1) ∧ Hd (DrG w6 wr)) (fun i _ => E.schemas.length + 1 - (intOf i).toNat)
          case atStart => exact ⟨0, Nat.zero_le _, rfl, hd⟩
          case round =>
            obtain ⟨k2, hk2, rfl, hd2⟩ := hrel
            have hn8 : E.schemas.length ≤ 100 := by have := HB2.out.sc; omega
            clear hn9 hi hk hlt hd
            by_cases hlt : k2 + 1 < E.schemas.length
            · obtain ⟨b, off, rfl, hb, hc⟩ := S6.out.1 (by omega)
              have hv := S6.out.2
              have q0 : wr.cell? ⟨b, off + k2 * 5, none⟩ = some (.string E.schemas[k2].name) := hd2.out.cell (hc k2 (by omega) (by omega) 0 (by decide))
              have q1 : wr.cell? ⟨b, off + (k2 + 1) * 5, none⟩ = some (.string E.schemas[k2 + 1].name) := hd2.out.cell (hc (k2 + 1) hlt (by omega) 0 (by decide))
              have p0 : wr.cell? ⟨b, off + k2 * 5 + 2, none⟩ = some (.int .i64 E.schemas[k2].rank) := hd2.out.cell (hc k2 (by omega) (by omega) 2 (by decide))
              have p1 : wr.cell? ⟨b, off + (k2 + 1) * 5 + 2, none⟩ = some (.int .i64 E.schemas[k2 + 1].rank) := hd2.out.cell (hc (k2 + 1) hlt (by omega) 2 (by decide))
              have qs := (List.pairwise_iff_getElem.1 HSS.out) k2 (k2 + 1) (by omega) hlt (by omega)
              have q3 : (((k2 + 1 : Nat) : Int)) = (k2 : Int) + 1 := by omega
              have hi : (k2 : Int) + 1 < (E.schemas.length : Int) := by omega
              have HI : Hd (k2 + 1 < E.schemas.length) := ⟨hlt⟩
              have q4 : IntKind.i64.wrap ((k2 : Int) + 1 - 1) = (k2 : Int) := by rw [IntKind.wrap_i64]; omega
              unfold ltS at qs
              simp only [Bool.or_eq_true, Bool.and_eq_true, decide_eq_true_eq] at qs
              generalize E.schemas[k2].name = n1 at *
              generalize E.schemas[k2 + 1].name = n2 at *
              generalize E.schemas[k2].rank = r1 at *
              generalize E.schemas[k2 + 1].rank = r2 at *
              clear hc hb hv
              rcases qs with qs | ⟨qe, qn⟩
              · have g1 : decide (r2 < r1) = false := decide_eq_false (by omega)
                have g2 : (r1 == r2) = false := by rw [beq_eq_false_iff_ne]; omega
                clear qs
                go_wp2_with fail
                go_big_quiet (fail)
                go_wp2_with fail
                go_roundw
                case rel => exact ⟨k2 + 1, by have := HI.out; omega, by go_num, ⟨hd2.out.more _⟩⟩
                case measure => have := HI.out; simp [intOf]; omega
              · have g1 : decide (r2 < r1) = false := decide_eq_false (by omega)
                have g2 : (r1 == r2) = true := by rw [beq_iff_eq]; exact qe
                have q2 : Op.bytesLess n1.toList n2.toList = true := by rw [txLt_of]; exact qn
                clear qe qn
                go_wp2_with fail
                go_big_quiet (fail)
                go_wp2_with fail
                go_roundw
                case rel => exact ⟨k2 + 1, by have := HI.out; omega, by go_num, ⟨hd2.out.more _⟩⟩
                case measure => have := HI.out; simp [intOf]; omega
            · have hi : ¬ ((k2 : Int) + 1 < (E.schemas.length : Int)) := by omega
              obtain ⟨z0, z1, z2, z3, z4, z5, z6⟩ := (hd2.out.blk T4'.out).seven
              obtain ⟨y0, y1, y2, y3, y4, y5, y6⟩ := (hd2.out.blk T6.out).seven
              have SM := same_cfr (RA.out.carry hd2.out.below) (RB.out.carry hd2.out.below)
              have BW : Hd (Below w.heap.size w wr) := ⟨B6.out.trans (hd2.out.below.mono B6.out.size)⟩
              have T4w : Hd (Blk wr g3 31 _) := ⟨hd2.out.blk T4'.out⟩
              have T6w : Hd (Blk wr g5 31 _) := ⟨hd2.out.blk T6.out⟩
              clear hd2 RA RB T4' T6 B6 hlt hk2
              go_wp2_with fail
              go_at_call 14
              refine SM.mono ?_
              rintro e w8 ⟨rfl, b8⟩
              have BW8 : Hd (Below w.heap.size w w8) := ⟨BW.out.trans (b8.mono BW.out.size)⟩
              have u6 := (T4w.out.kept (Kept.of_below b8 (fun _ => False)) id).seven.2.2.2.2.2.2
              have v6 := (T6w.out.kept (Kept.of_below b8 (fun _ => False)) id).seven.2.2.2.2.2.2
              clear z0 z1 z2 z3 z4 z5 z6 y0 y1 y2 y3 y4 y5 y6 b8 BW T4w T6w SM
              go_wp2_with fail
              go_ret
              exact ⟨rfl, BW8.out⟩
    · obtain ⟨q, hq, hq'⟩ := errV_two (mkE C)
      rw [← hq]
      have eC : mkC C = cf0 := if_neg hz
      have eD : mkD C = 0 := if_neg hz
      rw [eC] at hR
      rw [eC, eD]
      obtain ⟨bL, dL, bS, dS, V3, ev, -, -, -, -, -, -⟩ := hR.ex
      cases ev
      rcases hq' with ⟨-, h0⟩ | ⟨sa, sb, rfl, -⟩
      · exact absurd h0 hz
      have n1 : cf0.levels.length = 0 := rfl
      have n2 : cf0.schemas.length = 0 := rfl
      have SM := fun W (b : Below w3.heap.size w3 W) => same_cfr (hR.carry b) (cf0_r W)
      rw [n1, n2] at SM ⊢
      have HSM : Hd _ := ⟨SM⟩
      have A4 : Hd (Below w3.heap.size w3 (w3.alloc (.cells #[.int .i64 cf0.total, .int .i64 cf0.period, .int .i64 cf0.perSeat, .int .i64 cf0.most, .slice bL 0 dL, .slice bS 0 dS, .int .u64 (0 : Nat)] 31))) := ⟨alloc_below w3 _⟩
      have T4 : Hd (Blk (w3.alloc (.cells #[.int .i64 cf0.total, .int .i64 cf0.period, .int .i64 cf0.perSeat, .int .i64 cf0.most, .slice bL 0 dL, .slice bS 0 dS, .int .u64 (0 : Nat)] 31)) w3.heap.size 31 #[.int .i64 cf0.total, .int .i64 cf0.period, .int .i64 cf0.perSeat, .int .i64 cf0.most, .slice bL 0 dL, .slice bS 0 dS, .int .u64 (0 : Nat)]) := ⟨Blk.new w3 31 _⟩
      clear hz hq eC eD hR HM SM n1 n2
      go_wp2_with fail
      generalize w3.alloc _ = w4 at *
      have SM := HSM.out w4 A4.out
      have B4 : Hd (Below w.heap.size w w4) := ⟨B3.out.trans (A4.out.mono B3.out.size)⟩
      clear HSM
      obtain ⟨z0, z1, z2, z3, z4, z5, z6⟩ := T4.out.seven
      go_at_call 14
      refine SM.mono ?_
      rintro e w8 ⟨rfl, b8⟩
      have BW8 : Hd (Below w.heap.size w w8) := ⟨B4.out.trans (b8.mono B4.out.size)⟩
      clear z0 z1 z2 z3 z4 z5 z6 b8 SM
      go_wp2_with fail
      go_ret
      exact ⟨rfl, BW8.out⟩
end Go.Proofs.YthkdbphgiobcdaaGreatDoor
