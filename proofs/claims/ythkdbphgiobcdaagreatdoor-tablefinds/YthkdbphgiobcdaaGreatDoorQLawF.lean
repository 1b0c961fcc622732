/-
  The walk of 'TableFinds'. Conditions: the configuration lies in memory; the library's table of powers is laid; the name has a length.
-/
import Derived.Test.YthkdbphgiobcdaaGreatDoorB43
import Derived.Test.YthkdbphgiobcdaaGreatDoorB17
namespace Go.Proofs.YthkdbphgiobcdaaGreatDoor
open Go.RowKit

theorem beq_self (x : ByteArray) : (x.toList == x.toList) = true := by simp

set_option maxRecDepth 20000 in
set_option maxHeartbeats 8000000 in
theorem finds_ok (v : Value) (C : Cf) (x : ByteArray) (w : World) (h : CfR w v C) (hT : Tab w) : Calls Tryz.prog 6 #[v, .string x] w fun e w' => e = .returned (.bool true) ∧ Below w.heap.size w w' := by
  have HC : Hd (CfR w v C) := ⟨h⟩
  have HT : Hd (Tab w) := ⟨hT⟩
  obtain ⟨aL, cL, aS, cS, V, rfl, -, -, hL, -, -, -⟩ := h.ex
  have HL : Hd (LvR w aL C.levels) := ⟨hL⟩
  clear h hT hL
  have HS : Hd (∀ W, Below w.heap.size w W → Calls Tryz.prog 8 #[.agg #[.int .i64 C.total, .int .i64 C.period, .int .i64 C.perSeat, .int .i64 C.most, .slice aL C.levels.length cL, .slice aS C.schemas.length cS]] W fun e w' => IsB C e ∧ Below W.heap.size W w') := ⟨fun W b => small_any _ C W (HC.out.carry b)⟩
  have HP : Hd (∀ W, Below w.heap.size w W → C.levels.length ≤ 65536 → (Calls Tryz.prog 15 #[.agg #[.int .i64 C.total, .int .i64 C.period, .int .i64 C.perSeat, .int .i64 C.most, .slice aL C.levels.length cL, .slice aS C.schemas.length cS, .int .u64 0], .string x] W fun e w' => e = .returned (.tuple #[lvV (lvD (findL C.levels x)), .bool (findL C.levels x).isSome]) ∧ Below W.heap.size W w')
      ∧ (Calls Tryz.prog 16 #[.agg #[.int .i64 C.total, .int .i64 C.period, .int .i64 C.perSeat, .int .i64 C.most, .slice aL C.levels.length cL, .slice aS C.schemas.length cS, .int .u64 0], .string x] W fun e w' => e = .returned (.tuple #[lvV (lvD (findL C.levels x)), .bool (findL C.levels x).isSome]) ∧ Below W.heap.size W w')) :=
    ⟨fun W b hl => ⟨tlevel_ok _ _ _ _ 0 aL cL C.levels _ x W (HL.out.carry b) hl ⟨_, _, _, rfl⟩, rlevel_ok _ _ _ _ 0 aL cL C.levels _ x W (HL.out.carry b) hl ⟨_, _, _, rfl⟩⟩⟩
  have HN : Hd (Bnd 80 C → C.levels.length ≤ 65536) := ⟨fun h => by have := h.lv; omega⟩
  clear HL HC
  generalize lvD (findL C.levels x) = l at *
  generalize (findL C.levels x).isSome = bb at *
  generalize C.levels.length = nL at *
  generalize C.schemas.length = nS at *
  generalize C.total = x0 at *
  generalize C.period = x1 at *
  generalize C.perSeat = x2 at *
  generalize C.most = x3 at *
  have B0 : Hd (Below w.heap.size w (w.alloc (.cells #[.int .i64 x0, .int .i64 x1, .int .i64 x2, .int .i64 x3, .slice aL nL cL, .slice aS nS cS] 25))) := ⟨alloc_below w _⟩
  have F0 : Hd (Blk (w.alloc (.cells #[.int .i64 x0, .int .i64 x1, .int .i64 x2, .int .i64 x3, .slice aL nL cL, .slice aS nS cS] 25)) w.heap.size 25 #[.int .i64 x0, .int .i64 x1, .int .i64 x2, .int .i64 x3, .slice aL nL cL, .slice aS nS cS]) := ⟨Blk.new w 25 _⟩
  go_enter Tryz.func6, Tryz.ntmps6
  go_wp2_with fail
  generalize w.alloc _ = w0 at *
  go_at_call 7
  refine (awake_ok w0 (HT.out.stays B0.out)).mono ?_
  rintro e w1 ⟨rfl, b1⟩
  have B1 : Hd (Below w.heap.size w w1) := ⟨B0.out.trans (b1.mono B0.out.size)⟩
  have F1 : Hd (Blk w1 w.heap.size 25 _) := ⟨F0.out.kept (Kept.of_below b1 (fun _ => False)) id⟩
  clear b1 B0 F0
  obtain ⟨⟨l0, l1, l2, l3, l4, l5⟩, -⟩ := F1.out.sixP
  go_wp2_with fail
  go_at_call 8
  refine (HS.out w1 B1.out).mono ?_
  rintro e w2 ⟨⟨b, rfl, hb⟩, b2⟩
  have B2 : Hd (Below w.heap.size w w2) := ⟨B1.out.trans (b2.mono B1.out.size)⟩
  have F2 : Hd (Blk w2 w.heap.size 25 _) := ⟨F1.out.kept (Kept.of_below b2 (fun _ => False)) id⟩
  clear l0 l1 l2 l3 l4 l5 b2 B1 F1 HS
  obtain ⟨⟨l0, l1, l2, l3, l4, l5⟩, -⟩ := F2.out.sixP
  cases b with
  | false =>
    clear hb
    go_wp2_with fail
    go_ret
    exact ⟨rfl, B2.out⟩
  | true =>
    have HB := HN.out (hb rfl)
    have A3 : Hd (Below w.heap.size w (w2.alloc (.cells #[.int .i64 x0, .int .i64 x1, .int .i64 x2, .int .i64 x3, .slice aL nL cL, .slice aS nS cS, .int .u64 0] 31))) := ⟨B2.out.trans ((alloc_below w2 _).mono B2.out.size)⟩
    have T3 : Hd (Blk (w2.alloc (.cells #[.int .i64 x0, .int .i64 x1, .int .i64 x2, .int .i64 x3, .slice aL nL cL, .slice aS nS cS, .int .u64 0] 31)) w2.heap.size 31 #[.int .i64 x0, .int .i64 x1, .int .i64 x2, .int .i64 x3, .slice aL nL cL, .slice aS nS cS, .int .u64 0]) := ⟨Blk.new w2 31 _⟩
    have HB' : Hd (nL ≤ 65536) := ⟨HB⟩
    clear hb HB
    go_wp2_with fail
    generalize w2.alloc _ = w3 at *
    generalize w2.heap.size = g3 at *
    obtain ⟨n0, a1, a2, a3, a4, a5, a6, a7, a8, a9⟩ := l
    simp only [lvV] at HP
    go_at_call 15
    refine (HP.out w3 A3.out HB'.out).1.mono ?_
    rintro e w4 ⟨rfl, b4⟩
    have B4 : Hd (Below w.heap.size w w4) := ⟨A3.out.trans (b4.mono A3.out.size)⟩
    have T4 : Hd (Blk w4 g3 31 #[.int .i64 x0, .int .i64 x1, .int .i64 x2, .int .i64 x3, .slice aL nL cL, .slice aS nS cS, .int .u64 0]) := ⟨T3.out.kept (Kept.of_below b4 (fun _ => False)) id⟩
    clear b4 A3 T3 l0 l1 l2 l3 l4 l5 B2 F2
    have A5 : Hd (Below w.heap.size w (w4.alloc (.cells #[.string n0, .int .i64 a1, .int .i64 a2, .int .i64 a3, .int .i64 a4, .int .i64 a5, .int .i64 a6, .int .i64 a7, .int .i64 a8, .int .i64 a9] 43))) := ⟨B4.out.trans ((alloc_below w4 _).mono B4.out.size)⟩
    have T5 : Hd (Blk (w4.alloc (.cells #[.string n0, .int .i64 a1, .int .i64 a2, .int .i64 a3, .int .i64 a4, .int .i64 a5, .int .i64 a6, .int .i64 a7, .int .i64 a8, .int .i64 a9] 43)) g3 31 #[.int .i64 x0, .int .i64 x1, .int .i64 x2, .int .i64 x3, .slice aL nL cL, .slice aS nS cS, .int .u64 0]) := ⟨T4.out.kept (Kept.of_below (alloc_below w4 _) (fun _ => False)) id⟩
    have L5 : Hd (Blk (w4.alloc (.cells #[.string n0, .int .i64 a1, .int .i64 a2, .int .i64 a3, .int .i64 a4, .int .i64 a5, .int .i64 a6, .int .i64 a7, .int .i64 a8, .int .i64 a9] 43)) w4.heap.size 43 (lvA ⟨n0, a1, a2, a3, a4, a5, a6, a7, a8, a9⟩)) := ⟨Blk.new w4 43 _⟩
    have z0 := T5.out.cellv (v := .int .i64 x0) 0 rfl
    have z1 := T5.out.cellv (v := .int .i64 x1) 1 rfl
    have z2 := T5.out.cellv (v := .int .i64 x2) 2 rfl
    have z3 := T5.out.cellv (v := .int .i64 x3) 3 rfl
    have z4 := T5.out.cellv (v := .slice aL nL cL) 4 rfl
    have z5 := T5.out.cellv (v := .slice aS nS cS) 5 rfl
    have z6 := T5.out.cellv (v := .int .u64 0) 6 rfl
    go_wp2_with fail
    generalize w4.alloc _ = w5 at *
    generalize w4.heap.size = g5 at *
    go_at_call 16
    refine (HP.out w5 A5.out HB'.out).2.mono ?_
    rintro e w6 ⟨rfl, b6⟩
    have A7 : Hd (Below w.heap.size w (w6.alloc (.cells #[.string n0, .int .i64 a1, .int .i64 a2, .int .i64 a3, .int .i64 a4, .int .i64 a5, .int .i64 a6, .int .i64 a7, .int .i64 a8, .int .i64 a9] 43))) := ⟨(A5.out.trans (b6.mono A5.out.size)).trans ((alloc_below w6 _).mono (Nat.le_trans A5.out.size b6.size))⟩
    have L7 : Hd (Blk (w6.alloc (.cells #[.string n0, .int .i64 a1, .int .i64 a2, .int .i64 a3, .int .i64 a4, .int .i64 a5, .int .i64 a6, .int .i64 a7, .int .i64 a8, .int .i64 a9] 43)) g5 43 (lvA ⟨n0, a1, a2, a3, a4, a5, a6, a7, a8, a9⟩)) := ⟨(L5.out.kept (Kept.of_below b6 (fun _ => False)) id).kept (Kept.of_below (alloc_below w6 _) (fun _ => False)) id⟩
    obtain ⟨⟨y0, y1, y2, y3, y4, y5, y6, y7, y8, y9⟩, -⟩ := L7.out.ten
    simp only at y0 y1 y2 y3 y4 y5 y6 y7 y8 y9
    have e0 := beq_self n0
    clear z0 z1 z2 z3 z4 z5 z6 b6 A5 T5 L5 T4 B4 HP HN
    go_wp2_with fail
    go_ret
    exact ⟨rfl, A7.out⟩
end Go.Proofs.YthkdbphgiobcdaaGreatDoor
