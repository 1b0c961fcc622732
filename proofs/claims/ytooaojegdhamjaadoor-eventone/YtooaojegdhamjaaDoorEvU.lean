/-
  The walks of 'awake', 'EventBack' and 'EventOne'. Conditions: numbers fit their type, groups and the table of powers lie in memory.
-/
import Derived.Test.YtooaojegdhamjaaDoorEvS
import Derived.Test.YtooaojegdhamjaaDoorEvT
namespace Go.Proofs.YtooaojegdhamjaaDoor
open Go.RowKit Go.Lib

theorem evR_tick (w : World) : EvR w evA2 none 0 := ⟨fun h => absurd h (Nat.lt_irrefl 0), Nat.le_refl 0, fun k hk => absurd hk (Nat.not_lt_zero k), Nat.zero_le _, ⟨Nat.zero_le _, Nat.zero_le _, Nat.zero_le _, Nat.zero_le _, Nat.zero_le _⟩, ⟨⟨by decide, by decide⟩, ⟨by decide, by decide⟩, ⟨by decide, by decide⟩, ⟨by decide, by decide⟩⟩⟩
def YesP (w : World) : Ending → World → Prop := fun q w' => q = .returned (.bool true) ∧ Below w.heap.size w w'
set_option maxHeartbeats 1000000 in
theorem awake_ok (w : World) (hT : Tab w) : Calls Tryd.prog 6 #[] w (YesP w) := by
  unfold YesP
  have R : Calls Tryd.prog 9 #[.string ⟨#[110, 101, 119, 32, 55, 32, 117, 32, 45, 32, 103, 101, 116, 32, 112, 111, 100, 115, 32, 110, 115, 32, 51]⟩] w fun q w' => ∃ a c, q = .returned (.tuple #[.agg #[.int .i64 1, .int .i64 7, .int .i64 0, .string ⟨#[117]⟩, .slice a 0 c, .string ⟨#[103, 101, 116]⟩, .string ⟨#[112, 111, 100, 115]⟩, .string ⟨#[110, 115]⟩, .int .i64 3, .string ⟨#[]⟩], .int .i64 0]) ∧ Below w.heap.size w w' := by
    have h := read_ok ⟨#[110, 101, 119, 32, 55, 32, 117, 32, 45, 32, 103, 101, 116, 32, 112, 111, 100, 115, 32, 110, 115, 32, 51]⟩ w (by decide)
    rw [← lnA1] at h ⊢
    unfold ReadP at h
    rw [(back_all okA1).1, (back_all okA1).2] at h
    refine h.mono ?_
    rintro q w' ⟨a, c, rfl, -, hb⟩
    exact ⟨a, c, rfl, hb⟩
  have W : Hd (∀ v, Below w.heap.size w v → Calls Tryd.prog 8 #[.agg #[.int .i64 4, .int .i64 0, .int .i64 5, .string ⟨#[]⟩, .slice none 0 0, .string ⟨#[]⟩, .string ⟨#[]⟩, .string ⟨#[]⟩, .int .i64 0, .string ⟨#[]⟩]] v fun q w' => q = .returned (.tuple #[.string ⟨#[116, 105, 99, 107, 32, 53]⟩, .int .i64 0]) ∧ Below v.heap.size v w') := ⟨fun v hb => by
    have h := write_ok evA2 none 0 v (evR_tick v) (hT.stays hb)
    unfold WriteP at h
    rw [(wr_yes okA2).2.1, (wr_yes okA2).2.2, lnA2] at h
    exact h⟩
  clear hT
  go_enter Tryd.func6, Tryd.ntmps6
  go_wp2_with fail
  go_at_call 9
  refine R.mono ?_
  rintro q w1 ⟨a, c, rfl, b1⟩
  obtain ⟨w2, hw2⟩ : ∃ w2, w2 = w1.alloc (.cells #[.int .i64 1, .int .i64 7, .int .i64 0, .string ⟨#[117]⟩, .slice a 0 c, .string ⟨#[103, 101, 116]⟩, .string ⟨#[112, 111, 100, 115]⟩, .string ⟨#[110, 115]⟩, .int .i64 3, .string ⟨#[]⟩] 26) := ⟨_, rfl⟩
  have b2 : Below w1.heap.size w1 w2 := by rw [hw2]; exact alloc_below _ _
  have n2 : Blk w2 w1.heap.size 26 #[.int .i64 1, .int .i64 7, .int .i64 0, .string ⟨#[117]⟩, .slice a 0 c, .string ⟨#[103, 101, 116]⟩, .string ⟨#[112, 111, 100, 115]⟩, .string ⟨#[110, 115]⟩, .int .i64 3, .string ⟨#[]⟩] := by rw [hw2]; exact Blk.new _ _ _
  have B2 := Hd.mk (b1.trans (b2.mono b1.size))
  have N2 := Hd.mk n2
  clear b1 b2 n2 R
  go_wp2_with fail
  rw [← hw2]
  clear hw2
  go_at_call 8
  refine (W.out w2 B2.out).mono ?_
  rintro q w3 ⟨rfl, b3⟩
  have n3 := N2.out.kept (Kept.of_below b3 (fun _ => False)) id
  have r1 := n3.cellv 1 rfl
  have r8 := n3.cellv 8 rfl
  have B3 := Hd.mk (B2.out.trans (b3.mono B2.out.size))
  clear b3 n3
  go_wp2_with fail
  go_ret
  exact ⟨rfl, B3.out⟩

/-- An event that is handed in: any numbers that fit their type, any texts, groups that lie in memory. -/
structure EvI (w : World) (e : Ev) (a : Option Addr) (c : Nat) : Prop where
  row : RowL w a e.g
  cap : e.g.length ≤ c
  sh : Short e.g
  ln : e.g.length ≤ 9223372036854775807
  sz : e.u.size ≤ 9223372036854775807 ∧ e.v.size ≤ 9223372036854775807 ∧ e.r.size ≤ 9223372036854775807 ∧ e.s.size ≤ 9223372036854775807 ∧ e.t.size ≤ 9223372036854775807
  nm : I64 e.k ∧ I64 e.i ∧ I64 e.n ∧ I64 e.o

set_option maxHeartbeats 2000000 in
theorem back_law (e : Ev) (a : Option Addr) (c : Nat) (w : World) (h : EvI w e a c) (hT : Tab w) : Calls Tryd.prog 3 #[evV e a c] w (YesP w) := by
  unfold YesP
  obtain ⟨w1, hw1⟩ : ∃ w1, w1 = w.alloc (.cells #[.int .i64 e.k, .int .i64 e.i, .int .i64 e.n, .string e.u, .slice a e.g.length c, .string e.v, .string e.r, .string e.s, .int .i64 e.o, .string e.t] 26) := ⟨_, rfl⟩
  have B1 : Below w.heap.size w w1 := by rw [hw1]; exact alloc_below _ _
  have N1 : Blk w1 w.heap.size 26 #[.int .i64 e.k, .int .i64 e.i, .int .i64 e.n, .string e.u, .slice a e.g.length c, .string e.v, .string e.r, .string e.s, .int .i64 e.o, .string e.t] := by rw [hw1]; exact Blk.new _ _ _
  have HB : Hd (∀ W, Below w1.heap.size w1 W → Below w.heap.size w W) := ⟨fun W b => B1.trans (b.mono B1.size)⟩
  have X : Hd (∀ W, Below w1.heap.size w1 W → Blk W w.heap.size 26 #[.int .i64 e.k, .int .i64 e.i, .int .i64 e.n, .string e.u, .slice a e.g.length c, .string e.v, .string e.r, .string e.s, .int .i64 e.o, .string e.t]) := ⟨fun W b => N1.kept (Kept.of_below b (fun _ => False)) id⟩
  have HA := Hd.mk (awake_ok w1 (hT.stays B1))
  have HQ : Hd (∀ W, Below w1.heap.size w1 W → Calls Tryd.prog 7 #[.agg #[.string e.u, .slice a e.g.length c, .string e.v, .string e.r, .string e.s, .int .i64 e.o]] W (SmP W e.u e.v e.r e.s)) := ⟨fun W b => smallq_ok _ _ _ _ _ a c e.g W (h.row.carry (HB.out W b)) h.sh h.ln h.sz.1 h.sz.2.1 h.sz.2.2.1 h.sz.2.2.2.1⟩
  have HW : Hd (∀ W, Below w1.heap.size w1 W → (e.u.size ≤ 1000 ∧ e.v.size ≤ 1000 ∧ e.r.size ≤ 1000 ∧ e.s.size ≤ 1000) → e.t.size ≤ 16384 → EvR W e a c) := ⟨fun W b h1 h2 => ⟨h.row.carry (HB.out W b), h.cap, h.sh, h.ln, ⟨by unfold Sz; omega, by unfold Sz; omega, by unfold Sz; omega, by unfold Sz; omega, by unfold Sz; omega⟩, h.nm⟩⟩
  have HWr : Hd (∀ W, Below w1.heap.size w1 W → EvR W e a c → Calls Tryd.prog 8 #[evV e a c] W fun q w' => q = .returned (.tuple #[.string (wrT e), .int .i64 (wrX e)]) ∧ Below W.heap.size W w') := ⟨fun W b h => write_ok e a c W h (hT.stays (HB.out W b))⟩
  have HRd : Hd (∀ W, EvR W e a c → wrK e = true → ∀ v, Calls Tryd.prog 9 #[.string (lnE e)] v fun q w' => ∃ b d, q = .returned (.tuple #[evV e b d, .int .i64 0]) ∧ RowL w' b e.g ∧ Below v.heap.size v w') := ⟨fun W h hk v => by
    have := read_ok (lnE e) v (by have := lnE_len h; omega)
    unfold ReadP at this
    rw [(back_all (wr_ok hk)).1, (back_all (wr_ok hk)).2] at this
    exact this.mono fun q w' ⟨b, d, h1, h2, h3⟩ => ⟨b, d, h1, h2.1, h3⟩⟩
  have HS : Hd (∀ W b d, Below w1.heap.size w1 W → RowL W b e.g → Calls Tryd.prog 10 #[evV e a c, evV e b d] W fun q w' => q = .returned (.bool true) ∧ Below W.heap.size W w') := ⟨fun W b d hb hr => rsame_yes e a b c d W (h.row.carry (HB.out W hb)) hr h.ln⟩
  have ht := h.sz.2.2.2.2
  unfold YesP at HA
  clear B1 N1 h hT
  have HK : Hd (wrK e = true → wrT e = lnE e ∧ wrX e = 0) := ⟨fun h => (wr_yes (wr_ok h)).2⟩
  have HN : Hd (wrK e = false → wrT e = tx0 ∧ wrX e = 2) := ⟨fun h => by unfold wrT wrX; rw [h]; exact ⟨rfl, rfl⟩⟩
  generalize wrT e = yT at *
  generalize wrX e = yX at *
  generalize wrK e = yK at *
  generalize hln : lnE e = ln at *
  clear hln
  unfold evV evA at *
  generalize hm : e.g.length = m at *
  clear hm
  generalize hg : w.heap.size = g at *
  have HG := Hd.mk hg
  go_enter Tryd.func3, Tryd.ntmps3
  go_upto_region 1 with fail
  rw [← hw1]
  clear hw1
  go_wp2_with fail
  go_at_call 6
  refine HA.out.mono ?_
  rintro q w2 ⟨rfl, b2⟩
  have B2 := Hd.mk b2
  obtain ⟨⟨r0, r1, r2, r3, r4, r5, r6, r7, r8, r9⟩, -⟩ := (X.out w2 b2).ten
  clear b2 HA
  go_wp2_with fail
  go_at_call 7
  refine (HQ.out w2 B2.out).mono ?_
  rintro q w3 ⟨hq, b3⟩
  obtain ⟨bb, rfl, hbb⟩ := hq.ex
  have B3 := Hd.mk (B2.out.trans (b3.mono B2.out.size))
  have HBB := Hd.mk hbb
  obtain ⟨⟨p0, p1, p2, p3, p4, p5, p6, p7, p8, p9⟩, -⟩ := (X.out w3 B3.out).ten
  clear hbb hq b3 r0 r1 r2 r3 r4 r5 r6 r7 r8 r9
  cases bb with
  | false =>
    go_wp2_with fail
    go_ret
    exact ⟨rfl, by first | exact HB.out _ B3.out | (rw [HG.out]; exact HB.out _ B3.out)⟩
  | true =>
    by_cases hl : 16384 < e.t.size
    · go_wp2_with fail
      go_ret
      exact ⟨rfl, by first | exact HB.out _ B3.out | (rw [HG.out]; exact HB.out _ B3.out)⟩
    · have EV := Hd.mk (HW.out w3 B3.out (HBB.out rfl) (by omega))
      go_wp2_with fail
      go_at_call 8
      refine (HWr.out w3 B3.out EV.out).mono ?_
      rintro q w4 ⟨rfl, b4⟩
      have B4 := Hd.mk (B3.out.trans (b4.mono B3.out.size))
      clear b4
      cases yK with
      | false =>
        obtain ⟨y1, y2⟩ := HN.out rfl
        have y1' : yT = ⟨#[]⟩ := y1
        subst y1' y2
        clear y1 HN HK HRd
        go_wp2_with fail
        go_ret
        exact ⟨rfl, by first | exact HB.out _ B4.out | (rw [HG.out]; exact HB.out _ B4.out)⟩
      | true =>
        obtain ⟨y1, y2⟩ := HK.out rfl
        subst y1 y2
        have RR := Hd.mk (HRd.out w3 EV.out rfl w4)
        clear HN HK HRd
        go_wp2_with fail
        go_at_call 9
        refine RR.out.mono ?_
        rintro q w5 ⟨b, d, rfl, hr, b5⟩
        have B5 := Hd.mk (B4.out.trans (b5.mono B4.out.size))
        obtain ⟨w6, hw6⟩ : ∃ w6, w6 = w5.alloc (.cells #[.int .i64 e.k, .int .i64 e.i, .int .i64 e.n, .string e.u, .slice b m d, .string e.v, .string e.r, .string e.s, .int .i64 e.o, .string e.t] 26) := ⟨_, rfl⟩
        have b6 : Below w5.heap.size w5 w6 := by rw [hw6]; exact alloc_below _ _
        have n6 : Blk w6 w5.heap.size 26 #[.int .i64 e.k, .int .i64 e.i, .int .i64 e.n, .string e.u, .slice b m d, .string e.v, .string e.r, .string e.s, .int .i64 e.o, .string e.t] := by rw [hw6]; exact Blk.new _ _ _
        have B6 := Hd.mk (B5.out.trans (b6.mono B5.out.size))
        have SS := Hd.mk (HS.out w6 b d B6.out (hr.carry b6))
        obtain ⟨⟨t0, t1, t2, t3, t4, t5, t6, t7, t8, t9⟩, -⟩ := (X.out w6 B6.out).ten
        obtain ⟨⟨u0, u1, u2, u3, u4, u5, u6, u7, u8, u9⟩, -⟩ := n6.ten
        clear b6 n6 b5 hr
        go_upto_region 9 with fail
        rw [← hw6]
        clear hw6
        go_wp2_with (go_at_call 10; refine SS.out.mono ?_; rintro q w7 ⟨rfl, b7⟩)
        go_ret
        exact ⟨rfl, by first | exact HB.out _ (B6.out.trans (b7.mono B6.out.size)) | (rw [HG.out]; exact HB.out _ (B6.out.trans (b7.mono B6.out.size)))⟩
end Go.Proofs.YtooaojegdhamjaaDoor
