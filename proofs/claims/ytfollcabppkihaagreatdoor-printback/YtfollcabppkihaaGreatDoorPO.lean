/-
  What was read may be printed; 'awake'. Condition: the library's table of powers.
  What is read is printed as one text, which is read as the same: the walk of 'PrintOne'. Condition: the text's length is a number of its type; the library's table of powers.
-/
import Derived.Test.YtfollcabppkihaaGreatDoorPrO
import Derived.Test.YtfollcabppkihaaGreatDoorSameB
import Derived.Test.YtfollcabppkihaaGreatDoorParseB
namespace Go.Proofs.YtfollcabppkihaaGreatDoor
open Go.RowKit Go.Lib

theorem join_words {L : List ByteArray} (h : joinB L ≠ mk []) : ∀ x ∈ L, x.size ≤ 64 := by
  unfold joinB at h
  by_cases h0 : L = []
  · rw [h0]; intro x hx; cases hx
  rw [if_neg h0] at h
  by_cases h1 : L = [mk [42]]
  · rw [h1]; intro x hx; rw [List.mem_singleton.1 hx]; decide
  rw [if_neg h1] at h
  cases hg : good L with
  | false => rw [hg] at h; exact absurd rfl h
  | true => exact fun x hx => word_short (good_words (good_iff.1 hg) x hx)
theorem Lst.read {B : Nat} {w : World} {v : Value} {L : List ByteArray} (h : Lst B w v L) (hj : joinB L ≠ mk []) : LsR w v L := by
  obtain ⟨a, c, e, hr, hc, hl⟩ := h
  exact ⟨a, c, e, hr.row, hc, by omega, fun x hx => by have := join_words hj x hx; omega⟩
theorem RlOwn.read {B : Nat} {w : World} {v : Value} {rs : List Rl} (h : RlOwn B w v rs) (ho : ∀ r ∈ rs, rlOk r = true) : RlR w v rs := by
  obtain ⟨a, c, e, hl, hr⟩ := rl_row h
  refine ⟨a, c, e, by unfold maxLen at hl; omega, fun hn => ?_⟩
  obtain ⟨g, rfl, hg, hc⟩ := hr hn
  refine ⟨g, 0, rfl, hg, fun k hk => ?_⟩
  obtain ⟨v0, v1, v2, v3, v4, ⟨h0, h1, h2, h3, h4⟩, l0, l1, l2, l3, l4⟩ := hc k hk
  obtain ⟨j0, j1, j2, j3, j4⟩ := rlOk_iff.1 (ho rs[k] (List.getElem_mem hk))
  simp only [Nat.zero_add]
  exact ⟨v0, v1, v2, v3, v4, ⟨h0, h1, h2, h3, h4⟩, l0.read j0, l1.read j1, l2.read j2, l3.read j3, l4.read j4⟩
theorem CfV.read {B : Nat} {w : World} {v : Value} {C : Cf} (h : CfV B w v C) (hF : Formed C) : CfR w v C := by
  obtain ⟨vL, vS, V, rfl, hL, hS⟩ := h
  obtain ⟨aL, cL, eL⟩ := own_form hL
  obtain ⟨aS, cS, eS⟩ := own_form hS.own
  subst eL eS
  have n1 := hF.nl
  have n2 := hF.ns
  have capL : C.levels.length ≤ cL := by
    rcases hL.2 with ⟨e, e2⟩ | ⟨g, cap, cur, e, _, _, hc, _⟩
    · omega
    · injection e with _ _ e3; omega
  have capS : C.schemas.length ≤ cS := by
    rcases hS.own.2 with ⟨e, e2⟩ | ⟨g, cap, cur, e, _, _, hc, _⟩
    · omega
    · injection e with _ _ e3; omega
  refine ⟨⟨by omega, by omega⟩, ⟨fun l hl => by have := name_short (lvOk_iff.1 (hF.lv l hl)).1; omega, fun s hs => by
    have h1 := scOk_iff.1 (hF.sc s hs)
    have := name_short h1.1
    have := name_short h1.2.1
    omega⟩, aL, cL, aS, cS, V, rfl, capL, capS, fun hn => ?_, hS.len, fun hn => ?_, fun k h1 h2 => ?_⟩
  · obtain ⟨g, rfl, hg, hc⟩ := lv_rd hL hn
    exact ⟨g, 0, rfl, hg, fun k hk j hj => by rw [Nat.zero_add]; exact hc k hk j hj⟩
  · obtain ⟨g, rfl, hg, hc⟩ := sc_rd hS hn
    exact ⟨g, 0, rfl, hg, fun k hk hk' j hj => by rw [Nat.zero_add]; exact hc k hk hk' j hj⟩
  · exact (hS.rls k h1 h2).read (scOk_iff.1 (hF.sc _ (List.getElem_mem h1))).2.2.2.2.2

/-! ### awake -/
def awL : Lv := ⟨mk [97], 2, 5, 0, -1, 0, 0, 0, 0, 0⟩
def awC : Cf := ⟨10, 0, 0, 0, [awL], []⟩
def awT : ByteArray := ⟨#[116, 111, 116, 97, 108, 32, 49, 48, 10, 108, 101, 118, 101, 108, 32, 97, 32, 53, 32, 48, 32, 97, 108, 108, 32, 114, 101, 106, 101, 99, 116, 10]⟩
theorem awF : Formed awC := ⟨(by decide), (by decide), .inl ⟨rfl, rfl⟩, (by decide), fun l hl => (by
  rw [List.mem_singleton.1 hl]
  exact lvOk_iff.2 ⟨by decide, .inr (.inl ⟨rfl, by decide, by decide⟩)⟩), List.pairwise_singleton _ _, (by decide), fun _ h => (by cases h), List.Pairwise.nil⟩
theorem dig10 : digB 10 = mk [49, 48] := by
  show mk (decDigits 10) = _
  rw [dec_big (by decide), dec_small (by decide)]
  rfl
theorem dig5 : digB 5 = mk [53] := by
  show mk (decDigits 5) = _
  rw [dec_small (by decide)]
  rfl
theorem dig0 : digB 0 = mk [48] := by
  show mk (decDigits 0) = _
  rw [dec_small (by decide)]
  rfl
theorem awO : outB awC = awT := by
  have e : cfWs awC = [[tTotal, digB 10], [tLevel, mk [97], digB 5, digB 0, tAll, tReject]] := rfl
  unfold outB
  rw [e, dig10, dig5, dig0]
  rfl
theorem awE : printE awC = 0 ∧ printS awC = awT := by
  have e : printE awC = 0 := by
    unfold printE
    rw [formed_iff.2 awF, awO]
    rfl
  refine ⟨e, ?_⟩
  unfold printS
  rw [e, awO]
  rfl
set_option maxRecDepth 20000 in
theorem awake_any (w : World) (hT : Tab w) : Calls Tryz.prog 5 #[] w fun e w' => e = .returned (.bool true) ∧ Below w.heap.size w w' := by
  have AL := alloc_below w (.cells (lvA awL) 38)
  have NB := Blk.new w 38 (lvA awL)
  have R1 : CfR (w.alloc (.cells (lvA awL) 38)) (.agg #[.int .i64 10, .int .i64 0, .int .i64 0, .int .i64 0, .slice (some ⟨w.heap.size, 0, none⟩) 1 1, .slice none 0 0]) awC :=
    ⟨⟨by decide, by decide⟩, ⟨fun l hl => by rw [List.mem_singleton.1 hl]; decide, fun _ h => by cases h⟩, _, 1, none, 0, [], rfl, Nat.le_refl _, Nat.le_refl _, fun _ => ⟨w.heap.size, 0, rfl, NB.lt, fun k hk j hj => by
      obtain rfl : k = 0 := by have : k < 1 := hk; omega
      rw [NB.cell]
      simp only [Nat.zero_mul, Nat.zero_add]
      match j, hj with
      | 0, _ => rfl
      | 1, _ => rfl
      | 2, _ => rfl
      | 3, _ => rfl
      | 4, _ => rfl
      | 5, _ => rfl
      | 6, _ => rfl
      | 7, _ => rfl
      | 8, _ => rfl
      | 9, _ => rfl⟩, rfl, fun h => absurd h (by decide), fun k h => absurd h (Nat.not_lt_zero _)⟩
  have P1 := print_ok _ awC _ R1 (hT.stays AL)
  rw [awE.1, awE.2] at P1
  have B1 : Hd (Below w.heap.size w (w.alloc (.cells (lvA awL) 38))) := ⟨AL⟩
  clear R1 NB AL hT
  unfold lvA awL awT at P1
  unfold lvA awL at B1
  simp only [mk] at P1 B1
  go_enter Tryz.func5, Tryz.ntmps5
  go_wp2_with fail
  go_at_call 7
  refine P1.mono ?_
  rintro e w2 ⟨rfl, b2⟩
  go_wp2_with fail
  go_ret
  exact ⟨rfl, B1.out.trans (b2.mono B1.out.size)⟩
end Go.Proofs.YtfollcabppkihaaGreatDoor

namespace Go.Proofs.YtfollcabppkihaaGreatDoor
open Go.RowKit

/-- A configuration's shape. -/
def Six (v : Value) : Prop := ∃ (x0 x1 x2 x3 : Int) (a1 : Option Addr) (n1 c1 : Nat) (a2 : Option Addr) (n2 c2 : Nat), v = .agg #[.int .i64 x0, .int .i64 x1, .int .i64 x2, .int .i64 x3, .slice a1 n1 c1, .slice a2 n2 c2]
theorem CfV.six {B : Nat} {w : World} {v : Value} {C : Cf} (h : CfV B w v C) : Six v := by
  obtain ⟨vL, vS, V, rfl, hL, hS⟩ := h
  obtain ⟨a1, c1, rfl⟩ := own_form hL
  obtain ⟨a2, c2, rfl⟩ := own_form hS.own
  exact ⟨_, _, _, _, _, _, _, _, _, _, rfl⟩
theorem CfV.gone {B : Nat} {w w' : World} {v : Value} {C : Cf} (h : CfV B w v C) (b : Below w.heap.size w w') : CfV B w' v C := by
  obtain ⟨vL, vS, V, rfl, hL, hS⟩ := h
  have k : Kept (fun _ => False) w w' := Kept.of_below b _
  have f : ∀ t, Off t (fun _ => False) w := fun _ _ _ _ _ => id
  exact ⟨vL, vS, V, rfl, hL.off k (f _), hS.off k (f _) (f _) (f _)⟩
theorem err_some {e : Int} (l : Nat) (h0 : e ≠ 0) : ∃ u, errV e l = .iface 73 u := ⟨.agg #[.int .i64 (l : Int), .string ⟨#[]⟩, .iface 28 (.int .i64 e)], by unfold errV; rw [if_neg h0]⟩
theorem print_fine {C : Cf} (h : Formed C) (hs : (outB C).size ≤ 65536) : printE C = 0 ∧ printS C = outB C := by
  have e : printE C = 0 := by
    unfold printE
    rw [formed_iff.2 h, if_pos rfl, if_neg (by omega)]
  refine ⟨e, ?_⟩
  unfold printS
  rw [if_pos e]

set_option maxRecDepth 20000 in
set_option maxHeartbeats 2000000 in
theorem one_all (s : ByteArray) (w : World) (hs : s.size ≤ maxLen) (hT : Tab w) :
    Calls Tryz.prog 4 #[.string s] w fun e w' => e = .returned (.bool true) ∧ Below w.heap.size w w' := by
  have AW := awake_any w hT
  have hsz : s.size ≤ 9223372036854775807 := by unfold maxLen at hs; omega
  clear hs
  by_cases h20 : 20000 < s.size
  · go_enter Tryz.func4, Tryz.ntmps4
    go_wp2_with (go_at_call 5; refine AW.mono ?_; rintro e w1 ⟨rfl, b1⟩)
    go_ret
    exact ⟨rfl, b1⟩
  have PP := fun W => parse_ok s W hsz
  by_cases hE : parE s = 0
  · obtain ⟨hF, hO⟩ := par_formed hE
    have ho : (outB (parC s)).size ≤ 65536 := by omega
    obtain ⟨q1, q2⟩ := print_fine hF ho
    obtain ⟨p1, p2⟩ := print_back hF ho
    have FO := fun W v (h : CfR W v (parC s)) => formed_ok v (parC s) W h
    rw [formed_iff.2 hF] at FO
    have PR := fun W v (h : CfR W v (parC s)) hT => print_ok v (parC s) W h hT
    rw [q1, q2] at PR
    have P2 := fun W => parse_ok (outB (parC s)) W (by omega)
    rw [p1, p2] at P2
    rw [hE] at PP
    have e0 : errV 0 (parL s) = .nilIface := rfl
    have e1 : errV 0 (parL (outB (parC s))) = .nilIface := rfl
    rw [e0] at PP
    rw [e1] at P2
    have HF : Hd (Formed (parC s)) := ⟨hF⟩
    have HT : Hd (∀ W, Below w.heap.size w W → Tab W) := ⟨fun W hW => hT.stays hW⟩
    have HFO : Hd (∀ W v, CfR W v (parC s) → _) := ⟨FO⟩
    have HPR : Hd (∀ W v, CfR W v (parC s) → Tab W → _) := ⟨PR⟩
    clear FO PR q1 q2 p1 p2 e0 e1 hE hF hT
    generalize outB (parC s) = OUT at *
    generalize parC s = C at *
    go_enter Tryz.func4, Tryz.ntmps4
    go_wp2_with fail
    go_at_call 5
    refine AW.mono ?_
    rintro e w1 ⟨rfl, b1⟩
    go_wp2_with fail
    go_at_call 8
    refine (PP _).mono ?_
    rintro e w2 ⟨v2, rfl, cf2, b2⟩
    obtain ⟨x0, x1, x2, x3, a1, n1, c1, a2, n2, c2, rfl⟩ := cf2.six
    have AL := alloc_below w2 (.cells #[.int .i64 x0, .int .i64 x1, .int .i64 x2, .int .i64 x3, .slice a1 n1 c1, .slice a2 n2 c2] 25)
    have N3 := Blk.new w2 25 #[.int .i64 x0, .int .i64 x1, .int .i64 x2, .int .i64 x3, .slice a1 n1 c1, .slice a2 n2 c2]
    have B3 : Hd (Below w.heap.size w (w2.alloc (.cells #[.int .i64 x0, .int .i64 x1, .int .i64 x2, .int .i64 x3, .slice a1 n1 c1, .slice a2 n2 c2] 25))) := ⟨(b1.trans (b2.mono b1.size)).trans (AL.mono (Nat.le_trans b1.size b2.size))⟩
    have C3 := cf2.gone AL
    clear cf2 b1 b2 AL PP AW
    go_upto_region 6 with fail
    generalize w2.alloc _ = w3 at *
    generalize w2.heap.size = g3 at *
    obtain ⟨⟨y0, y1, y2, y3, y4, y5⟩, -⟩ := N3.six
    have F3 := HFO.out w3 _ (C3.read HF.out)
    go_wp2_with fail
    go_at_call 10
    refine F3.mono ?_
    rintro e w4 ⟨rfl, b4⟩
    have N4 := N3.kept (Kept.of_below b4 (fun _ => False)) id
    have C4 := C3.gone b4
    have B4 : Hd (Below w.heap.size w w4) := ⟨B3.out.trans (b4.mono B3.out.size)⟩
    have R4 := HPR.out w4 _ (C4.read HF.out) (HT.out w4 B4.out)
    clear F3 N3 C3 B3 b4 y0 y1 y2 y3 y4 y5
    obtain ⟨⟨y0, y1, y2, y3, y4, y5⟩, -⟩ := N4.six
    go_wp2_with fail
    go_at_call 7
    refine R4.mono ?_
    rintro e w5 ⟨rfl, b5⟩
    have N5 := N4.kept (Kept.of_below b5 (fun _ => False)) id
    have C5 := C4.gone b5
    have B5 : Hd (Below w.heap.size w w5) := ⟨B4.out.trans (b5.mono B4.out.size)⟩
    clear R4 N4 C4 B4 b5 y0 y1 y2 y3 y4 y5
    go_wp2_with fail
    go_at_call 8
    refine (P2 _).mono ?_
    rintro e w6 ⟨v6, rfl, cf6, b6⟩
    obtain ⟨z0, z1, z2, z3, d1, k1, e1, d2, k2, e2, rfl⟩ := cf6.six
    have AL := alloc_below w6 (.cells #[.int .i64 z0, .int .i64 z1, .int .i64 z2, .int .i64 z3, .slice d1 k1 e1, .slice d2 k2 e2] 25)
    have N7 := Blk.new w6 25 #[.int .i64 z0, .int .i64 z1, .int .i64 z2, .int .i64 z3, .slice d1 k1 e1, .slice d2 k2 e2]
    have B7 : Hd (Below w.heap.size w (w6.alloc (.cells #[.int .i64 z0, .int .i64 z1, .int .i64 z2, .int .i64 z3, .slice d1 k1 e1, .slice d2 k2 e2] 25))) := ⟨(B5.out.trans (b6.mono B5.out.size)).trans (AL.mono (Nat.le_trans B5.out.size b6.size))⟩
    have D7 := cf6.gone AL
    have C7 := (C5.gone b6).gone AL
    have M7 := (N5.kept (Kept.of_below b6 (fun _ => False)) id).kept (Kept.of_below AL (fun _ => False)) id
    clear cf6 b6 AL P2 N5 C5 B5
    go_upto_region 12 with fail
    generalize w6.alloc _ = w7 at *
    generalize w6.heap.size = g7 at *
    obtain ⟨⟨y0, y1, y2, y3, y4, y5⟩, -⟩ := N7.six
    have R7 := HPR.out w7 _ (D7.read HF.out) (HT.out w7 B7.out)
    go_wp2_with fail
    go_at_call 7
    refine R7.mono ?_
    rintro e w8 ⟨rfl, b8⟩
    have N8 := N7.kept (Kept.of_below b8 (fun _ => False)) id
    have M8 := M7.kept (Kept.of_below b8 (fun _ => False)) id
    have SC := same_cf (C7.gone b8) (D7.gone b8)
    have B8 : Hd (Below w.heap.size w w8) := ⟨B7.out.trans (b8.mono B7.out.size)⟩
    clear R7 N7 M7 C7 D7 B7 b8 y0 y1 y2 y3 y4 y5 HFO HPR HT HF
    obtain ⟨⟨y0, y1, y2, y3, y4, y5⟩, -⟩ := N8.six
    obtain ⟨⟨t0, t1, t2, t3, t4, t5⟩, -⟩ := M8.six
    have ee : (OUT.toList == OUT.toList) = true := by simp
    have le : (OUT.size : Int) ≤ (s.size : Int) + 1 := by omega
    clear N8 M8 hO
    go_wp2_with (go_at_call 9; refine SC.mono ?_; rintro e w9 ⟨rfl, b9⟩)
    go_ret
    exact ⟨(by first | rfl | simp [le]), B8.out.trans (b9.mono B8.out.size)⟩
  · obtain ⟨u, hu⟩ := err_some (parL s) hE
    rw [hu] at PP
    clear hu hE hT
    generalize parC s = C at *
    go_enter Tryz.func4, Tryz.ntmps4
    go_wp2_with fail
    go_at_call 5
    refine AW.mono ?_
    rintro e w1 ⟨rfl, b1⟩
    go_wp2_with fail
    go_at_call 8
    refine (PP _).mono ?_
    rintro e w2 ⟨v2, rfl, cf2, b2⟩
    obtain ⟨x0, x1, x2, x3, a1, n1, c1, a2, n2, c2, rfl⟩ := cf2.six
    have B3 : Hd (Below w.heap.size w (w2.alloc (.cells #[.int .i64 x0, .int .i64 x1, .int .i64 x2, .int .i64 x3, .slice a1 n1 c1, .slice a2 n2 c2] 25))) := ⟨(b1.trans (b2.mono b1.size)).trans ((alloc_below w2 _).mono (Nat.le_trans b1.size b2.size))⟩
    clear cf2 b1 b2 PP AW
    go_wp2_with fail
    go_ret
    exact ⟨rfl, B3.out⟩
end Go.Proofs.YtfollcabppkihaaGreatDoor
