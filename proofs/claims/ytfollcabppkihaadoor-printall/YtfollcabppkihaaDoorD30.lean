/-
  The reference of layers 8 and 10 (RfL). Conditions: what is read lies in memory.
  The reference of layers 8 and 10 (BxR). Conditions: what is read lies in memory.
-/
import Derived.Test.YtfollcabppkihaaDoorD27
import Derived.Test.YtfollcabppkihaaDoorD28
import Derived.Test.YtfollcabppkihaaDoorD29
import Derived.Test.YtfollcabppkihaaDoorD20
import Derived.Test.YtfollcabppkihaaDoorD23
namespace Go.Proofs.YtfollcabppkihaaDoor
open Go.RowKit Go.Lib

set_option maxRecDepth 20000 in
set_option maxHeartbeats 1000000 in
theorem rlevel_no {B : Nat} (a : Option Addr) (c n : Nat) (w : World) (C : Cf) (vL vS : Value) (V : List Value) (hL : LvOwn B w vL C.levels) (hS : ScOwn B w vS C.schemas V)
    (h3 : ((n : Int) == 3) = false) (h6 : ((n : Int) == 6) = false) (h11 : ((n : Int) == 11) = false) :
    Calls Tryd.prog 44 #[.agg #[.int .i64 C.total, .int .i64 C.period, .int .i64 C.perSeat, .int .i64 C.most, vL, vS], .slice a n c] w fun e w' => ∃ v, e = .returned (.tuple #[v, .int .i64 2]) ∧ Below w.heap.size w w' ∧ Six v := by
  have X0 : Hd _ := ⟨Lx.start hL hS⟩
  obtain ⟨aL, cL, rfl⟩ := own_form hL
  obtain ⟨aS, cS, rfl⟩ := own_form hS.own
  clear hL hS
  go_enter Tryd.func44, Tryd.ntmps44
  go_upto_region 3 with fail
  generalize hw2 : World.alloc _ _ = w2
  have X2 : Hd (Lx B w w2 C (.slice aL C.levels.length cL) (.slice aS C.schemas.length cS) V (lv0 0)) := ⟨by rw [← hw2]; exact X0.out⟩
  clear hw2 X0
  obtain ⟨y0, y1, y2, y3, y4, y5⟩ := X2.out.x.reads
  obtain ⟨r0, r1, r2, r3, r4, r5, f0, f1, f2, f3, f4, f5⟩ := X2.out.x.room
  go_wp2_with fail
  obtain ⟨q1, q2, q3⟩ := X2.out.x.sets (.int .i64 C.total) (.int .i64 C.period) (.int .i64 C.perSeat) (.int .i64 C.most) (.slice aL C.levels.length cL) (.slice aS C.schemas.length cS)
  refine bodyPost_ret (resC36 _ _ _ _ _ _ _ _ _ _ rfl rfl q1) rfl ?_
  exact ⟨_, rfl, q2, ⟨_, _, _, _, _, _, _, _, _, _, rfl⟩⟩

set_option maxRecDepth 20000 in
set_option maxHeartbeats 1000000 in
theorem rlevel_no3 {B : Nat} (b off c : Nat) (x : ByteArray) (w : World) (C : Cf) (vL vS : Value) (V : List Value) (hL : LvOwn B w vL C.levels) (hS : ScOwn B w vS C.schemas V) (hb : b < w.heap.size)
    (hc : w.cell? ⟨b, off + 2, none⟩ = some (.string x)) (hx : x ≠ mk [101, 120, 101, 109, 112, 116]) :
    Calls Tryd.prog 44 #[.agg #[.int .i64 C.total, .int .i64 C.period, .int .i64 C.perSeat, .int .i64 C.most, vL, vS], .slice (some ⟨b, off, none⟩) 3 c] w fun e w' => ∃ v, e = .returned (.tuple #[v, .int .i64 2]) ∧ Below w.heap.size w w' ∧ Six v := by
  have X0 : Hd _ := ⟨Lx.start hL hS⟩
  obtain ⟨aL, cL, rfl⟩ := own_form hL
  obtain ⟨aS, cS, rfl⟩ := own_form hS.own
  clear hL hS
  have tx := lit_isnt hx
  clear hx
  go_enter Tryd.func44, Tryd.ntmps44
  go_upto_region 3 with fail
  generalize hw2 : World.alloc _ _ = w2
  have X2 : Hd (Lx B w w2 C (.slice aL C.levels.length cL) (.slice aS C.schemas.length cS) V (lv0 0)) := ⟨by rw [← hw2]; exact X0.out⟩
  clear hw2 X0
  have c2 := (X2.out.x.bel.cell (p := ⟨b, off + 2, none⟩) hb).trans hc
  obtain ⟨y0, y1, y2, y3, y4, y5⟩ := X2.out.x.reads
  obtain ⟨r0, r1, r2, r3, r4, r5, f0, f1, f2, f3, f4, f5⟩ := X2.out.x.room
  go_wp2_with fail
  obtain ⟨q1, q2, q3⟩ := X2.out.x.sets (.int .i64 C.total) (.int .i64 C.period) (.int .i64 C.perSeat) (.int .i64 C.most) (.slice aL C.levels.length cL) (.slice aS C.schemas.length cS)
  refine bodyPost_ret (resC36 _ _ _ _ _ _ _ _ _ _ rfl rfl q1) rfl ?_
  exact ⟨_, rfl, q2, ⟨_, _, _, _, _, _, _, _, _, _, rfl⟩⟩

set_option maxRecDepth 20000 in
set_option maxHeartbeats 1000000 in
theorem rlevel_no6 {B : Nat} (b off c : Nat) (x : ByteArray) (w : World) (C : Cf) (vL vS : Value) (V : List Value) (hL : LvOwn B w vL C.levels) (hS : ScOwn B w vS C.schemas V) (hb : b < w.heap.size)
    (hc : w.cell? ⟨b, off + 5, none⟩ = some (.string x)) (hx : x ≠ mk [114, 101, 106, 101, 99, 116]) :
    Calls Tryd.prog 44 #[.agg #[.int .i64 C.total, .int .i64 C.period, .int .i64 C.perSeat, .int .i64 C.most, vL, vS], .slice (some ⟨b, off, none⟩) 6 c] w fun e w' => ∃ v, e = .returned (.tuple #[v, .int .i64 2]) ∧ Below w.heap.size w w' ∧ Six v := by
  have X0 : Hd _ := ⟨Lx.start hL hS⟩
  obtain ⟨aL, cL, rfl⟩ := own_form hL
  obtain ⟨aS, cS, rfl⟩ := own_form hS.own
  clear hL hS
  have tx := lit_isnt hx
  clear hx
  go_enter Tryd.func44, Tryd.ntmps44
  go_upto_region 3 with fail
  generalize hw2 : World.alloc _ _ = w2
  have X2 : Hd (Lx B w w2 C (.slice aL C.levels.length cL) (.slice aS C.schemas.length cS) V (lv0 0)) := ⟨by rw [← hw2]; exact X0.out⟩
  clear hw2 X0
  have c2 := (X2.out.x.bel.cell (p := ⟨b, off + 5, none⟩) hb).trans hc
  obtain ⟨y0, y1, y2, y3, y4, y5⟩ := X2.out.x.reads
  obtain ⟨r0, r1, r2, r3, r4, r5, f0, f1, f2, f3, f4, f5⟩ := X2.out.x.room
  go_wp2_with fail
  obtain ⟨q1, q2, q3⟩ := X2.out.x.sets (.int .i64 C.total) (.int .i64 C.period) (.int .i64 C.perSeat) (.int .i64 C.most) (.slice aL C.levels.length cL) (.slice aS C.schemas.length cS)
  refine bodyPost_ret (resC36 _ _ _ _ _ _ _ _ _ _ rfl rfl q1) rfl ?_
  exact ⟨_, rfl, q2, ⟨_, _, _, _, _, _, _, _, _, _, rfl⟩⟩

set_option maxRecDepth 20000 in
set_option maxHeartbeats 1000000 in
theorem rlevel_no11 {B : Nat} (b off c : Nat) (x : ByteArray) (w : World) (C : Cf) (vL vS : Value) (V : List Value) (hL : LvOwn B w vL C.levels) (hS : ScOwn B w vS C.schemas V) (hb : b < w.heap.size)
    (hc : w.cell? ⟨b, off + 5, none⟩ = some (.string x)) (hx : x ≠ mk [113, 117, 101, 117, 101]) :
    Calls Tryd.prog 44 #[.agg #[.int .i64 C.total, .int .i64 C.period, .int .i64 C.perSeat, .int .i64 C.most, vL, vS], .slice (some ⟨b, off, none⟩) 11 c] w fun e w' => ∃ v, e = .returned (.tuple #[v, .int .i64 2]) ∧ Below w.heap.size w w' ∧ Six v := by
  have X0 : Hd _ := ⟨Lx.start hL hS⟩
  obtain ⟨aL, cL, rfl⟩ := own_form hL
  obtain ⟨aS, cS, rfl⟩ := own_form hS.own
  clear hL hS
  have tx := lit_isnt hx
  clear hx
  go_enter Tryd.func44, Tryd.ntmps44
  go_upto_region 3 with fail
  generalize hw2 : World.alloc _ _ = w2
  have X2 : Hd (Lx B w w2 C (.slice aL C.levels.length cL) (.slice aS C.schemas.length cS) V (lv0 0)) := ⟨by rw [← hw2]; exact X0.out⟩
  clear hw2 X0
  have c2 := (X2.out.x.bel.cell (p := ⟨b, off + 5, none⟩) hb).trans hc
  obtain ⟨y0, y1, y2, y3, y4, y5⟩ := X2.out.x.reads
  obtain ⟨r0, r1, r2, r3, r4, r5, f0, f1, f2, f3, f4, f5⟩ := X2.out.x.room
  go_wp2_with fail
  obtain ⟨q1, q2, q3⟩ := X2.out.x.sets (.int .i64 C.total) (.int .i64 C.period) (.int .i64 C.perSeat) (.int .i64 C.most) (.slice aL C.levels.length cL) (.slice aS C.schemas.length cS)
  refine bodyPost_ret (resC36 _ _ _ _ _ _ _ _ _ _ rfl rfl q1) rfl ?_
  exact ⟨_, rfl, q2, ⟨_, _, _, _, _, _, _, _, _, _, rfl⟩⟩

theorem rlevel_ok {B : Nat} (a : Option Addr) (c : Nat) (ws : List ByteArray) (w : World) (C : Cf) (v : Value) (hv : CfV B w v C) (hr : RowL w a ws) (hl : 0 < ws.length) (hsz : ∀ k, (gt ws k).size ≤ 65536) (hnl : C.levels.length ≤ 16) (hB : B ≤ w.heap.size) :
    Calls Tryd.prog 44 #[v, .slice a ws.length c] w fun e w' => ∃ v', e = .returned (.tuple #[v', .int .i64 (levelE C ws.tail)]) ∧ Below w.heap.size w w' ∧ Six v'
      ∧ (levelE C ws.tail = 0 → CfV B w' v' ⟨C.total, C.period, C.perSeat, C.most, C.levels ++ [levelOf ws.tail], C.schemas⟩) := by
  obtain ⟨vL, vS, V, rfl, hL, hS⟩ := hv
  obtain ⟨b, off, rfl, hb, hc⟩ := hr hl
  have bad : kindW ws.tail = 0 → levelE C ws.tail = 2 := fun h => by
    unfold levelE levelW
    rw [if_pos h, mu_keep (e := 2) (by decide), mu_keep (e := 2) (by decide)]
  by_cases h3 : ws.length = 3
  · match ws, h3, hc, hsz, bad with
    | [x0, x1, x2], _, hc, hsz, bad =>
      by_cases hk : x2 = tExempt
      · exact rlevel_1 b off c x1 x2 w C vL vS V hL hS hb (hc 1 (by simp)) (hc 2 (by simp)) (hsz 1) hk hnl hB
      · have e2 := bad (by simp [kindW, gt, hk])
        show Calls _ _ _ _ _
        rw [e2]
        refine (rlevel_no3 b off c x2 w C vL vS V hL hS hb (hc 2 (by simp)) hk).mono ?_
        rintro e w' ⟨v, rfl, hb, h6⟩
        exact ⟨v, rfl, hb, h6, fun h => absurd h (by decide)⟩
  by_cases h6 : ws.length = 6
  · match ws, h6, hc, hsz, bad with
    | [x0, x1, x2, x3, x4, x5], _, hc, hsz, bad =>
      by_cases hk : x5 = tReject
      · exact rlevel_2 b off c x1 x2 x3 x4 x5 w C vL vS V hL hS hb (hc 1 (by simp)) (hc 2 (by simp)) (hc 3 (by simp)) (hc 4 (by simp)) (hc 5 (by simp)) (hsz 1) (hsz 2) (hsz 3) (hsz 4) hk hnl hB
      · have e2 := bad (by simp [kindW, gt, hk])
        show Calls _ _ _ _ _
        rw [e2]
        refine (rlevel_no6 b off c x5 w C vL vS V hL hS hb (hc 5 (by simp)) hk).mono ?_
        rintro e w' ⟨v, rfl, hb, h6⟩
        exact ⟨v, rfl, hb, h6, fun h => absurd h (by decide)⟩
  by_cases h11 : ws.length = 11
  · match ws, h11, hc, hsz, bad with
    | [x0, x1, x2, x3, x4, x5, x6, x7, x8, x9, x10], _, hc, hsz, bad =>
      by_cases hk : x5 = tQueue
      · exact rlevel_3 b off c x1 x2 x3 x4 x5 x6 x7 x8 x9 x10 w C vL vS V hL hS hb (hc 1 (by simp)) (hc 2 (by simp)) (hc 3 (by simp)) (hc 4 (by simp)) (hc 5 (by simp)) (hc 6 (by simp)) (hc 7 (by simp)) (hc 8 (by simp)) (hc 9 (by simp)) (hc 10 (by simp)) (hsz 1) (hsz 2) (hsz 3) (hsz 4) (hsz 6) (hsz 7) (hsz 8) (hsz 9) (hsz 10) hk hnl hB
      · have e2 := bad (by simp [kindW, gt, hk])
        show Calls _ _ _ _ _
        rw [e2]
        refine (rlevel_no11 b off c x5 w C vL vS V hL hS hb (hc 5 (by simp)) hk).mono ?_
        rintro e w' ⟨v, rfl, hb, h6⟩
        exact ⟨v, rfl, hb, h6, fun h => absurd h (by decide)⟩
  · have e2 := bad (by
      have e : ws.tail.length = ws.length - 1 := List.length_tail ..
      unfold kindW
      rw [if_neg (fun h => by omega), if_neg (fun h => by omega), if_neg (fun h => by omega)])
    rw [e2]
    refine (rlevel_no (some ⟨b, off, none⟩) c ws.length w C vL vS V hL hS (by simp; omega) (by simp; omega) (by simp; omega)).mono ?_
    rintro e w' ⟨v, rfl, hb, h6⟩
    exact ⟨v, rfl, hb, h6, fun h => absurd h (by decide)⟩


end Go.Proofs.YtfollcabppkihaaDoor

namespace Go.Proofs.YtfollcabppkihaaDoor
open Go

/-- The schemas in another row, laid into the box. -/
theorem Bx.swap {B : Nat} {w w8 : World} {C : Cf} {vL vS v' : Value} {V : List Value} (h : Bx B w w8 C vL vS V) (hown : w8.ownsRow B 40 5 v' C.schemas.length (scCs C.schemas V)) :
    Bx B w (w8.setCell ⟨w.heap.size, 5, none⟩ v') C vL v' V := by
  have k9 : Kept (fun k => k = w.heap.size) w8 (w8.setCell ⟨w.heap.size, 5, none⟩ v') := (Kept.refl (fun k => k = w.heap.size) w8).setCell ⟨w.heap.size, 5, none⟩ v' (.inl rfl)
  exact ⟨h.bel.trans (k9.below h.bel.size (fun j hj => by omega)), h.c.set 5 _, h.r.kept k9 (by omega), h.l.off k9 (off_blkR h.c (by decide)),
    (ScOwn.mk h.s.len hown h.s.rls).off k9 (off_blkR h.c (by decide)) (off_blkR h.c (by decide)) (off_blkR h.c (by decide))⟩


end Go.Proofs.YtfollcabppkihaaDoor
