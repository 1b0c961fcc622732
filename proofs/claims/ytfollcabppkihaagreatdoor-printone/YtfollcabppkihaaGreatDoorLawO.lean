/-
  What is read is printed as one text, which is read as the same: the walk of 'PrintOne'. Condition: the text's length is a number of its type; the library's table of powers.
-/
import Derived.Test.YtfollcabppkihaaGreatDoorPrP
namespace Go.Proofs.YtfollcabppkihaaGreatDoor
open Go.RowKit

/-- A configuration's shape. -/
def Six (v : Value) : Prop := ∃ (x0 x1 x2 x3 : Int) (a1 : Option Addr) (n1 c1 : Nat) (a2 : Option Addr) (n2 c2 : Nat), v = .agg #[.int .i64 x0, .int .i64 x1, .int .i64 x2, .int .i64 x3, .slice a1 n1 c1, .slice a2 n2 c2]
theorem CfV.six {B : Nat} {w : World} {v : Value} {C : Cf} (h : CfV B w v C) : Six v := by
  obtain ⟨vL, vS, V, rfl, hL, hS⟩ := h
  obtain ⟨a1, c1, rfl⟩ := own_form hL
  obtain ⟨a2, c2, rfl⟩ := own_form hS.own
  exact ⟨_, _, _, _, _, _, _, _, _, _, rfl⟩
theorem CfV.gone {B : Nat} {w w' : World} {v : Value} {C : Cf} (h : CfV B w v C) (b : Below w.heap.size w w') : CfV B w' v C := by
  obtain ⟨vL, vS, V, rfl, hL, hS⟩ := h
  have k : Kept (fun _ => False) w w' := Kept.of_below b _
  have f : ∀ t, Off t (fun _ => False) w := fun _ _ _ _ _ => id
  exact ⟨vL, vS, V, rfl, hL.off k (f _), hS.off k (f _) (f _) (f _)⟩
theorem err_some {e : Int} (l : Nat) (h0 : e ≠ 0) : ∃ u, errV e l = .iface 73 u := ⟨.agg #[.int .i64 (l : Int), .string ⟨#[]⟩, .iface 28 (.int .i64 e)], by unfold errV; rw [if_neg h0]⟩
theorem print_fine {C : Cf} (h : Formed C) (hs : (outB C).size ≤ 65536) : printE C = 0 ∧ printS C = outB C := by
  have e : printE C = 0 := by
    unfold printE
    rw [formed_iff.2 h, if_pos rfl, if_neg (by omega)]
  refine ⟨e, ?_⟩
  unfold printS
  rw [if_pos e]

set_option maxRecDepth 20000 in
set_option maxHeartbeats 2000000 in
theorem one_all (s : ByteArray) (w : World) (hs : s.size ≤ maxLen) (hT : Tab w) :
    Calls Tryz.prog 4 #[.string s] w fun e w' => e = .returned (.bool true) ∧ Below w.heap.size w w' := by
  have AW := awake_any w hT
  have hsz : s.size ≤ 9223372036854775807 := by unfold maxLen at hs; omega
  clear hs
  by_cases h20 : 20000 < s.size
  · go_enter Tryz.func4, Tryz.ntmps4
    go_wp2_with (go_at_call 5; refine AW.mono ?_; rintro e w1 ⟨rfl, b1⟩)
    go_ret
    exact ⟨rfl, b1⟩
  have PP := fun W => parse_ok s W hsz
  by_cases hE : parE s = 0
  · obtain ⟨hF, hO⟩ := par_formed hE
    have ho : (outB (parC s)).size ≤ 65536 := by omega
    obtain ⟨q1, q2⟩ := print_fine hF ho
    obtain ⟨p1, p2⟩ := print_back hF ho
    have FO := fun W v (h : CfR W v (parC s)) => formed_ok v (parC s) W h
    rw [formed_iff.2 hF] at FO
    have PR := fun W v (h : CfR W v (parC s)) hT => print_ok v (parC s) W h hT
    rw [q1, q2] at PR
    have P2 := fun W => parse_ok (outB (parC s)) W (by omega)
    rw [p1, p2] at P2
    rw [hE] at PP
    have e0 : errV 0 (parL s) = .nilIface := rfl
    have e1 : errV 0 (parL (outB (parC s))) = .nilIface := rfl
    rw [e0] at PP
    rw [e1] at P2
    have HF : Hd (Formed (parC s)) := ⟨hF⟩
    have HT : Hd (∀ W, Below w.heap.size w W → Tab W) := ⟨fun W hW => hT.stays hW⟩
    have HFO : Hd (∀ W v, CfR W v (parC s) → _) := ⟨FO⟩
    have HPR : Hd (∀ W v, CfR W v (parC s) → Tab W → _) := ⟨PR⟩
    clear FO PR q1 q2 p1 p2 e0 e1 hE hF hT
    generalize outB (parC s) = OUT at *
    generalize parC s = C at *
    go_enter Tryz.func4, Tryz.ntmps4
    go_wp2_with fail
    go_at_call 5
    refine AW.mono ?_
    rintro e w1 ⟨rfl, b1⟩
    go_wp2_with fail
    go_at_call 8
    refine (PP _).mono ?_
    rintro e w2 ⟨v2, rfl, cf2, b2⟩
    obtain ⟨x0, x1, x2, x3, a1, n1, c1, a2, n2, c2, rfl⟩ := cf2.six
    have AL := alloc_below w2 (.cells #[.int .i64 x0, .int .i64 x1, .int .i64 x2, .int .i64 x3, .slice a1 n1 c1, .slice a2 n2 c2] 25)
    have N3 := Blk.new w2 25 #[.int .i64 x0, .int .i64 x1, .int .i64 x2, .int .i64 x3, .slice a1 n1 c1, .slice a2 n2 c2]
    have B3 : Hd (Below w.heap.size w (w2.alloc (.cells #[.int .i64 x0, .int .i64 x1, .int .i64 x2, .int .i64 x3, .slice a1 n1 c1, .slice a2 n2 c2] 25))) := ⟨(b1.trans (b2.mono b1.size)).trans (AL.mono (Nat.le_trans b1.size b2.size))⟩
    have C3 := cf2.gone AL
    clear cf2 b1 b2 AL PP AW
    go_upto_region 6 with fail
    generalize w2.alloc _ = w3 at *
    generalize w2.heap.size = g3 at *
    obtain ⟨⟨y0, y1, y2, y3, y4, y5⟩, -⟩ := N3.six
    have F3 := HFO.out w3 _ (C3.read HF.out)
    go_wp2_with fail
    go_at_call 10
    refine F3.mono ?_
    rintro e w4 ⟨rfl, b4⟩
    have N4 := N3.kept (Kept.of_below b4 (fun _ => False)) id
    have C4 := C3.gone b4
    have B4 : Hd (Below w.heap.size w w4) := ⟨B3.out.trans (b4.mono B3.out.size)⟩
    have R4 := HPR.out w4 _ (C4.read HF.out) (HT.out w4 B4.out)
    clear F3 N3 C3 B3 b4 y0 y1 y2 y3 y4 y5
    obtain ⟨⟨y0, y1, y2, y3, y4, y5⟩, -⟩ := N4.six
    go_wp2_with fail
    go_at_call 7
    refine R4.mono ?_
    rintro e w5 ⟨rfl, b5⟩
    have N5 := N4.kept (Kept.of_below b5 (fun _ => False)) id
    have C5 := C4.gone b5
    have B5 : Hd (Below w.heap.size w w5) := ⟨B4.out.trans (b5.mono B4.out.size)⟩
    clear R4 N4 C4 B4 b5 y0 y1 y2 y3 y4 y5
    go_wp2_with fail
    go_at_call 8
    refine (P2 _).mono ?_
    rintro e w6 ⟨v6, rfl, cf6, b6⟩
    obtain ⟨z0, z1, z2, z3, d1, k1, e1, d2, k2, e2, rfl⟩ := cf6.six
    have AL := alloc_below w6 (.cells #[.int .i64 z0, .int .i64 z1, .int .i64 z2, .int .i64 z3, .slice d1 k1 e1, .slice d2 k2 e2] 25)
    have N7 := Blk.new w6 25 #[.int .i64 z0, .int .i64 z1, .int .i64 z2, .int .i64 z3, .slice d1 k1 e1, .slice d2 k2 e2]
    have B7 : Hd (Below w.heap.size w (w6.alloc (.cells #[.int .i64 z0, .int .i64 z1, .int .i64 z2, .int .i64 z3, .slice d1 k1 e1, .slice d2 k2 e2] 25))) := ⟨(B5.out.trans (b6.mono B5.out.size)).trans (AL.mono (Nat.le_trans B5.out.size b6.size))⟩
    have D7 := cf6.gone AL
    have C7 := (C5.gone b6).gone AL
    have M7 := (N5.kept (Kept.of_below b6 (fun _ => False)) id).kept (Kept.of_below AL (fun _ => False)) id
    clear cf6 b6 AL P2 N5 C5 B5
    go_upto_region 12 with fail
    generalize w6.alloc _ = w7 at *
    generalize w6.heap.size = g7 at *
    obtain ⟨⟨y0, y1, y2, y3, y4, y5⟩, -⟩ := N7.six
    have R7 := HPR.out w7 _ (D7.read HF.out) (HT.out w7 B7.out)
    go_wp2_with fail
    go_at_call 7
    refine R7.mono ?_
    rintro e w8 ⟨rfl, b8⟩
    have N8 := N7.kept (Kept.of_below b8 (fun _ => False)) id
    have M8 := M7.kept (Kept.of_below b8 (fun _ => False)) id
    have SC := same_cf (C7.gone b8) (D7.gone b8)
    have B8 : Hd (Below w.heap.size w w8) := ⟨B7.out.trans (b8.mono B7.out.size)⟩
    clear R7 N7 M7 C7 D7 B7 b8 y0 y1 y2 y3 y4 y5 HFO HPR HT HF
    obtain ⟨⟨y0, y1, y2, y3, y4, y5⟩, -⟩ := N8.six
    obtain ⟨⟨t0, t1, t2, t3, t4, t5⟩, -⟩ := M8.six
    have ee : (OUT.toList == OUT.toList) = true := by simp
    have le : (OUT.size : Int) ≤ (s.size : Int) + 1 := by omega
    clear N8 M8 hO
    go_wp2_with (go_at_call 9; refine SC.mono ?_; rintro e w9 ⟨rfl, b9⟩)
    go_ret
    exact ⟨(by first | rfl | simp [le]), B8.out.trans (b9.mono B8.out.size)⟩
  · obtain ⟨u, hu⟩ := err_some (parL s) hE
    rw [hu] at PP
    clear hu hE hT
    generalize parC s = C at *
    go_enter Tryz.func4, Tryz.ntmps4
    go_wp2_with fail
    go_at_call 5
    refine AW.mono ?_
    rintro e w1 ⟨rfl, b1⟩
    go_wp2_with fail
    go_at_call 8
    refine (PP _).mono ?_
    rintro e w2 ⟨v2, rfl, cf2, b2⟩
    obtain ⟨x0, x1, x2, x3, a1, n1, c1, a2, n2, c2, rfl⟩ := cf2.six
    have B3 : Hd (Below w.heap.size w (w2.alloc (.cells #[.int .i64 x0, .int .i64 x1, .int .i64 x2, .int .i64 x3, .slice a1 n1 c1, .slice a2 n2 c2] 25))) := ⟨(b1.trans (b2.mono b1.size)).trans ((alloc_below w2 _).mono (Nat.le_trans b1.size b2.size))⟩
    clear cf2 b1 b2 PP AW
    go_wp2_with fail
    go_ret
    exact ⟨rfl, B3.out⟩
end Go.Proofs.YtfollcabppkihaaGreatDoor
