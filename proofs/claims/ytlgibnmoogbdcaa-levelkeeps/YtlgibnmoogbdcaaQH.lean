/-
  Whatever happens, the seats that run are within the limit or no more than they were: the walk. Condition: the script lies in memory.
-/
import Derived.Test.YtlgibnmoogbdcaaQ41
import Derived.Test.YtlgibnmoogbdcaaQ43
import Derived.BigQuiet
namespace Go.Proofs.Ytlgibnmoogbdcaa
open Go.RowKit

/-- What there is before each round. -/
structure HoI (w : World) (g k : Nat) (s : St) (W : World) : Prop where
  bel : Below w.heap.size w W
  lg : w.heap.size ≤ g
  box : ∃ ax cx ar cr, Blk W g 36 (stB s (.slice ax s.x.F.length cx) (.slice ar s.run.length cr)) ∧ StR (fun j => j = g) W ax cx s.x.F ∧ TkS (fun j => j = g) W ar cr s.run
  iv : IvL k s
/-- What a step leaves in a box of its own. -/
structure HoC (u : World) (g : Nat) (p : St × List Tk) (s7 s8 : Value) (W : World) : Prop where
  bel : Below u.heap.size u W
  box : ∃ q a c ar cr, s7 = .pointer (some ⟨q, 0, none⟩) ∧ u.heap.size ≤ q ∧ Blk W q 36 (stB p.1 (.slice a p.1.x.F.length c) (.slice ar p.1.run.length cr)) ∧ StR (fun j => j = g ∨ j = q) W a c p.1.x.F ∧ TkS (fun j => j = g ∨ j = q) W ar cr p.1.run
  tk : ∃ a c, s8 = .slice a p.2.length c
def stK (s : St) (x : Oq) : St × List Tk := stX s x.o (chF s.x.F s.x.o x.hf (min x.hn 20))
theorem OqR.row {w : World} {a : Option Addr} {n : Nat} {H : Nat → Oq} (h : OqR w a n H) {k : Nat} (hk : k < n) : ∃ b off, a = some ⟨b, off, none⟩ ∧ (∀ W, Below w.heap.size w W → W.rangeAt b (off + k * 19) (opA (H k).o (H k).ha (H k).hn (H k).hc).toList) ∧ OqOk w (H k) := by
  obtain ⟨b, off, rfl, hb, hc⟩ := h (by omega)
  obtain ⟨h1, h2⟩ := hc k hk
  refine ⟨b, off, rfl, fun W B j v hv => ?_, h2⟩
  have hj : j < 19 := (List.getElem?_eq_some_iff.1 hv).1
  have e := (B.cell (p := ⟨b, off + (k * 19 + j), none⟩) hb).trans (h1 j hj)
  rw [← Nat.add_assoc] at e
  exact e.trans hv
theorem exec_loadOp {oi : Oper} {a : Act} {w : World} (x : Operand) (ho : oi.op = .load 45 x) (b o : Nat) (hx : a.eval x = .pointer (some ⟨b, o, none⟩)) (q : Od) (ah : Option Addr) (nh ch : Nat) (hc : w.rangeAt b o (opA q ah nh ch).toList) :
    (execOp a.eval oi).run Try.prog w = .ok (.value (.agg (opA q ah nh ch))) w := by
  unfold execOp
  simp only [ho, hx, Instr.loadAt, Instr.sureAddr, Sem.run_bind, Sem.run_pure, Result.andThen_ok, run_loadVar_mid w b o 45 _ _ hc Try.underlying45 rfl (by kernel_rfl)]
theorem wpl_loadOp {ops : Array Oper} {rest : List Oper} {o : Oper} {a : Act} {w : World} {Q : Exit → Act → World → Prop} (hgd : o.guard = none) (x : Operand) (ho : o.op = .load 45 x) (b off : Nat) (hx : a.eval x = .pointer (some ⟨b, off, none⟩)) (q : Od) (ah : Option Addr) (nh ch : Nat) (hc : w.rangeAt b off (opA q ah nh ch).toList)
    (h : wpList Try.prog ops Q rest (a.put o.dst (.agg (opA q ah nh ch))) w) : wpList Try.prog ops Q (o :: rest) a w :=
  wpList_load_mid hgd 45 x ho b off hx (opA q ah nh ch).toList _ hc Try.underlying45 rfl (by kernel_rfl) h

set_option maxRecDepth 20000 in
set_option maxHeartbeats 4000000 in
theorem holds_law (l : Lv) (H : Nat → Oq) (a : Option Addr) (n c : Nat) (w : World) (hn : OqR w a n H) (hb : n ≤ 9223372036854775807) :
    Calls Try.prog 4 #[.agg #[.string l.name, .int .i64 l.kind, .int .i64 l.shares, .int .i64 l.lend, .int .i64 l.borrow, .int .i64 l.queues, .int .i64 l.hand, .int .i64 l.length, .int .i64 l.wait, .int .i64 l.guess], .slice a n c] w fun e w' => e = .returned (.bool true) ∧ Below w.heap.size w w' := by
  obtain ⟨w1, hw1⟩ : ∃ w1, w1 = w.alloc (.cells #[.string l.name, .int .i64 l.kind, .int .i64 l.shares, .int .i64 l.lend, .int .i64 l.borrow, .int .i64 l.queues, .int .i64 l.hand, .int .i64 l.length, .int .i64 l.wait, .int .i64 l.guess] 23) := ⟨_, rfl⟩
  have B1 : Below w.heap.size w w1 := by rw [hw1]; exact alloc_below _ _
  have N1 : Blk w1 w.heap.size 23 (lvA l) := by rw [hw1]; exact Blk.new _ _ _
  have AW := awake_ok w1
  have HW := Hd.mk (And.intro B1 (And.intro N1 hn))
  clear B1 N1 hn
  go_enter Try.func4, Try.ntmps4
  go_upto_region 1 with fail
  rw [← hw1]
  clear hw1
  go_wp2_with fail
  go_at_call 6
  refine AW.mono ?_
  rintro e w2 ⟨rfl, b2⟩
  clear AW
  have N2 := HW.out.2.1.kept (Kept.of_below b2 (fun _ => False)) id
  obtain ⟨d0, d1, d2, d3, d4, d5, d6, d7, d8, d9⟩ := N2.lv
  have OP := open_st l w2 (fun _ => False) (fun _ h => h.elim)
  have HB2 := Hd.mk b2
  clear N2 b2
  go_wp2_with fail
  go_at_call 7
  refine OP.mono ?_
  rintro e w3 ⟨⟨v3, rfl, v3e⟩, b3⟩
  clear OP d0 d1 d2 d3 d4 d5 d6 d7 d8 d9
  obtain ⟨a3, c3, ar3, cr3, rfl, s3, t3⟩ := v3e
  obtain ⟨w4, hw4⟩ : ∃ w4, w4 = w3.alloc (.cells #[.string { data := #[] }, .int .i64 0, .int .i64 0, .int .i64 0, .int .i64 0, .int .i64 0, .int .i64 0, .int .i64 0, .int .i64 0, .int .i64 0, .bool false, .int .i64 0, .int .i64 0, .int .i64 0, .int .i64 0, .int .i64 0, .int .i64 0, .int .u64 0, .int .i64 0, .int .i64 0, .int .i64 0, .slice none 0 0, .slice none 0 0] 36) := ⟨_, rfl⟩
  have P4 : Blk w4 w3.heap.size 36 (stB sZ (.slice none 0 0) (.slice none 0 0)) := by rw [hw4]; exact Blk.new _ _ _
  have B4 : Below w3.heap.size w3 w4 := by rw [hw4]; exact alloc_below _ _
  have H4 := Hd.mk (And.intro b3 (And.intro B4 (And.intro s3 t3)))
  clear b3 B4 s3 t3
  go_upto_region 4 with (rw [← hw4]; refine wpl_storeSt rfl _ _ rfl w3.heap.size rfl (stB (opS l) (.slice a3 (opS l).x.F.length c3) (.slice ar3 (opS l).run.length cr3)) _ rfl P4 rfl rfl (st_one _ _ _ _ _ _ _) ?_; intro w5 n5 k5)
  clear hw4 P4
  obtain ⟨g, hg⟩ : ∃ g, g = w3.heap.size := ⟨_, rfl⟩
  have hI0 : HoI w g 0 (opS l) w5 := by
    have h1 := HW.out.1
    have h2 := HB2.out
    have h4 := H4.out
    rw [← hg] at k5 n5
    have z1 := h1.size
    have z2 := h2.size
    have z3 := h4.1.size
    have z4 := h4.2.1.size
    have k4 := Kept.of_below h4.2.1 (fun j => j = g)
    refine ⟨(((h1.trans (h2.mono (by omega))).trans (h4.1.mono (by omega))).trans (h4.2.1.mono (by omega))).trans (k5.below (by omega) (fun j e => by omega)), by omega, ⟨a3, c3, ar3, cr3, n5, ?_, ?_⟩, IvL.start l⟩
    · exact (h4.2.2.1.stp (Kept.of_below h4.2.1 _) (T := fun j => j = g) (fun j hj e => by omega)).stp k5 (fun _ _ e => e)
    · exact (h4.2.2.2.step (Kept.of_below h4.2.1 _) (T := fun j => j = g) (fun j hj e => by omega)).step k5 (fun _ _ e => e)
  rw [← hg]
  have HI0 := Hd.mk hI0
  clear hI0 n5 k5 hg H4 HB2
  go_wp2_with fail
  go_loopw [6] (fun vi wr => ∃ (k : Nat) (s : St), k ≤ n ∧ k ≤ 100 ∧ vi = .int .i64 k ∧ Hd (HoI w g k s wr)) (fun vi _ => n - (intOf vi).toNat)
  case atStart => exact ⟨0, _, Nat.zero_le _, by decide, rfl, HI0⟩
  case round =>
    obtain ⟨k, s, hk, hk1, rfl, hI⟩ := hrel
    clear HI0
    by_cases hend : k < n ∧ k < 100
    · obtain ⟨hlt, hlt1⟩ := hend
      obtain ⟨ax, cx, ar, cr, P, sx, tx⟩ := hI.out.box
      obtain ⟨b, off, rfl, RW, ok⟩ := (HW.out.2.2.carry hI.out.bel).row hlt
      obtain ⟨p, hp⟩ : ∃ p, p = stK s (H k) := ⟨_, rfl⟩
      have CS : Hd (∀ Y, Below wr.heap.size wr Y → Calls Try.prog 10 #[.agg (stB s (.slice ax s.x.F.length cx) (.slice ar s.run.length cr)), .agg (opA (H k).o (H k).ha (H k).hn (H k).hc)] Y fun e w' => StA (fun j => j = g ∨ (wr.heap.size ≤ j ∧ j < Y.heap.size)) w' p e ∧ Below Y.heap.size Y w') := ⟨fun Y B => by
        rw [hp]
        have e9 : ∀ j, j < wr.heap.size → (j = g ∨ (wr.heap.size ≤ j ∧ j < Y.heap.size)) → j = g := fun j hj e => e.elim id (fun e => absurd e.1 (by omega))
        exact step_ok s (H k).o ax cx ar cr (H k).ha (H k).hn (H k).hc (H k).hf Y _ (sx.stp (Kept.of_below B _) e9) (tx.step (Kept.of_below B _) e9) (fun j e => by have := P.lt; have := B.size; omega) hI.out.iv.few (Nat.le_trans hI.out.iv.cnt (by omega)) (ok.1.carry B) ok.2.2.1⟩
      obtain ⟨n0, hn0⟩ : ∃ n0, n0 = s.x.F.length := ⟨_, rfl⟩
      obtain ⟨m0, hm0⟩ : ∃ m0, m0 = s.run.length := ⟨_, rfl⟩
      have HL := Hd.mk (And.intro hn0 hm0)
      have HP := Hd.mk hp
      rw [← hn0, ← hm0] at CS P
      have HX := Hd.mk (And.intro RW (And.intro sx (And.intro tx P)))
      clear hn0 hm0 hp RW sx tx P ok
      have i1 : (k : Int) < (n : Int) := by omega
      go_upto_region 7 with fail
      go_cut [7, 8] from 17 to 81 (fun s7 s8 wx => HoC wr g p s7 s8 wx)
      case first =>
        have B0 : Below wr.heap.size wr wr.drew := (Below.refl _ _).drew
        refine AnyG.start (T := fun Y => Below wr.heap.size wr Y) (U := fun _ => True) (j0 := 11) (by kernel_rfl) ?_
        generalize wr.drew = v0 at *
        refine .tq (v := .agg (stB s (.slice ax n0 cx) (.slice ar m0 cr))) 0 28 B0 ?_ (hy := fun w hSw => exec_loadSt _ rfl g rfl _ (HX.out.2.2.2.kept (Kept.of_below hSw (fun _ => False)) id) rfl); simp only [oqA, oqB, oqC]
        refine .tq 1 29 B0 ?_; simp only [oqA, oqB, oqC]
        refine .tq 2 30 B0 ?_; simp only [oqA, oqB, oqC]
        refine .tq (v := .pointer (some ⟨b, off + k * 19, none⟩)) 3 31 B0 ?_ (hy := fun w hSw => by go_simp); simp only [oqA, oqB, oqC]
        refine .tq (v := .agg (opA (H k).o (H k).ha (H k).hn (H k).hc)) 4 32 B0 ?_ (hy := fun w hSw => exec_loadOp _ rfl b (off + k * 19) rfl _ _ _ _ (HX.out.1 w hSw)); simp only [oqA, oqB, oqC]
        refine AnyG.ready (rs := [5, 9]) (by kernel_rfl) (by simp) ?_
        refine AllG.cons rfl (fun K hK => ?_) (AllG.cons rfl (fun K hK => ?_) (AllG.nil))
        · skip
          go_simp
          refine (CS.out v0 B0).mono ?_
          rintro e v1 ⟨⟨v5, u5, rfl, v5e, a6, c6, rfl, t6⟩, b6⟩
          obtain ⟨a5, c5, ar5, cr5, rfl, s5, t5⟩ := v5e
          have B1 := B0.trans (b6.mono B0.size)
          refine hK.out _ _ ⟨B1, fun _ => trivial⟩ ?_
          clear hK K
          refine .tq 6 27 B1 ?_; simp only [oqA, oqB, oqC]
          refine .tq 7 34 B1 ?_; simp only [oqA, oqB, oqC]
          refine .tq 8 35 B1 ?_; simp only [oqA, oqB, oqC]
          refine AnyG.ready (rs := [9]) (by kernel_rfl) (by simp) ?_
          refine AllG.cons rfl (fun K hK => ?_) (AllG.nil)
          go_simp
          have NA : Blk (v1.alloc (.cells #[.string { data := #[] }, .int .i64 0, .int .i64 0, .int .i64 0, .int .i64 0, .int .i64 0, .int .i64 0, .int .i64 0, .int .i64 0, .int .i64 0, .bool false, .int .i64 0, .int .i64 0, .int .i64 0, .int .i64 0, .int .i64 0, .int .i64 0, .int .u64 0, .int .i64 0, .int .i64 0, .int .i64 0, .slice none 0 0, .slice none 0 0] 36)) v1.heap.size 36 (stB sZ (.slice none 0 0) (.slice none 0 0)) := Blk.new _ _ _
          have b9 : Below v1.heap.size v1 (v1.alloc (.cells #[.string { data := #[] }, .int .i64 0, .int .i64 0, .int .i64 0, .int .i64 0, .int .i64 0, .int .i64 0, .int .i64 0, .int .i64 0, .int .i64 0, .bool false, .int .i64 0, .int .i64 0, .int .i64 0, .int .i64 0, .int .i64 0, .int .i64 0, .int .u64 0, .int .i64 0, .int .i64 0, .int .i64 0, .slice none 0 0, .slice none 0 0] 36)) := alloc_below _ _
          have B2 := B1.trans (b9.mono B1.size)
          refine hK.out _ _ ⟨B2, fun _ => trivial⟩ ?_
          clear hK K
          generalize v1.alloc _ = v2 at *
          obtain ⟨q, hq⟩ : ∃ q, q = v1.heap.size := ⟨_, rfl⟩
          rw [← hq] at NA ⊢
          have hq0 : wr.heap.size ≤ q := by rw [hq]; exact B1.size
          have s5' : StR (fun j => j = g ∨ j = q) v2 a5 c5 p.1.x.F := s5.stp (Kept.of_below b9 _) (fun j hj e => e.elim .inl (fun e => absurd e (by omega)))
          have t5' : TkS (fun j => j = g ∨ j = q) v2 ar5 cr5 p.1.run := t5.step (Kept.of_below b9 _) (fun j hj e => e.elim .inl (fun e => absurd e (by omega)))
          clear hq b9 B1 b6 s5 t5
          refine AnyG.ready (rs := [10]) (by kernel_rfl) (by simp) ?_
          refine AllG.cons rfl (fun K hK => ?_) (AllG.nil)
          refine step_storeSt rfl _ _ rfl q rfl (stB p.1 (.slice a5 p.1.x.F.length c5) (.slice ar5 p.1.run.length cr5)) _ rfl NA rfl rfl (st_one _ _ _ _ _ _ _) ?_
          intro v3 n3 k3
          have B3 := B2.trans (k3.below B2.size (fun j e => by omega))
          refine hK.out _ _ ⟨B3, fun _ => trivial⟩ ?_
          clear hK K
          have HC := Hd.mk (And.intro B3 (And.intro hq0 (And.intro n3 (And.intro (s5'.stp (k3.mono (T := fun j => j = g ∨ j = q) (fun _ _ e => .inr e)) (T := fun j => j = g ∨ j = q) (fun _ _ e => e)) (t5'.step (k3.mono (T := fun j => j = g ∨ j = q) (fun _ _ e => .inr e)) (T := fun j => j = g ∨ j = q) (fun _ _ e => e)))))) 
          refine AnyG.ready (rs := [11]) (by kernel_rfl) (by simp) ?_
          refine AllG.cons rfl (fun K hK => ?_) (AllG.nil)
          go_simp
          refine hK.out _ _ ⟨B3, fun _ => trivial⟩ ?_
          refine AnyG.done (by kernel_rfl) ?_ _
          clear hK K B2 B3 NA s5' t5' n3 k3 B0
          go_wp2_with fail
          go_meet
          exact ⟨HC.out.1, ⟨q, a5, c5, ar5, cr5, rfl, HC.out.2.1, HC.out.2.2.1, HC.out.2.2.2.1, HC.out.2.2.2.2⟩, ⟨_, _, rfl⟩⟩
        · skip
          go_simp
          have NA : Blk (v0.alloc (.cells #[.string { data := #[] }, .int .i64 0, .int .i64 0, .int .i64 0, .int .i64 0, .int .i64 0, .int .i64 0, .int .i64 0, .int .i64 0, .int .i64 0, .bool false, .int .i64 0, .int .i64 0, .int .i64 0, .int .i64 0, .int .i64 0, .int .i64 0, .int .u64 0, .int .i64 0, .int .i64 0, .int .i64 0, .slice none 0 0, .slice none 0 0] 36)) v0.heap.size 36 (stB sZ (.slice none 0 0) (.slice none 0 0)) := Blk.new _ _ _
          have b9 : Below v0.heap.size v0 (v0.alloc (.cells #[.string { data := #[] }, .int .i64 0, .int .i64 0, .int .i64 0, .int .i64 0, .int .i64 0, .int .i64 0, .int .i64 0, .int .i64 0, .int .i64 0, .bool false, .int .i64 0, .int .i64 0, .int .i64 0, .int .i64 0, .int .i64 0, .int .i64 0, .int .u64 0, .int .i64 0, .int .i64 0, .int .i64 0, .slice none 0 0, .slice none 0 0] 36)) := alloc_below _ _
          have B1 := B0.trans (b9.mono B0.size)
          refine hK.out _ _ ⟨B1, fun _ => trivial⟩ ?_
          clear hK K
          obtain ⟨q, hq⟩ : ∃ q, q = v0.heap.size := ⟨_, rfl⟩
          rw [← hq] at NA ⊢
          have hq0 : wr.heap.size ≤ q := by rw [hq]; exact B0.size
          clear hq
          generalize v0.alloc _ = v1 at *
          have hq1 : q < v1.heap.size := NA.lt
          refine AnyG.ready (rs := [5]) (by kernel_rfl) (by simp) ?_
          refine AllG.cons rfl (fun K hK => ?_) (AllG.nil)
          go_simp
          refine (CS.out v1 B1).mono ?_
          rintro e v2 ⟨⟨v5, u5, rfl, v5e, a6, c6, rfl, t6⟩, b6⟩
          obtain ⟨a5, c5, ar5, cr5, rfl, s5, t5⟩ := v5e
          have B2 := B1.trans (b6.mono B1.size)
          refine hK.out _ _ ⟨B2, fun _ => trivial⟩ ?_
          clear hK K
          replace NA := NA.kept (Kept.of_below b6 (fun _ => False)) id
          have s5' : StR (fun j => j = g ∨ j = q) v2 a5 c5 p.1.x.F := s5.stp (Kept.refl _ _) (fun j hj e => e.elim .inl (fun e => .inr ⟨by omega, by omega⟩))
          have t5' : TkS (fun j => j = g ∨ j = q) v2 ar5 cr5 p.1.run := t5.step (Kept.refl _ _) (fun j hj e => e.elim .inl (fun e => .inr ⟨by omega, by omega⟩))
          clear b9 B1 b6 s5 t5 hq1
          refine .tq 6 27 B2 ?_; simp only [oqA, oqB, oqC]
          refine .tq 7 34 B2 ?_; simp only [oqA, oqB, oqC]
          refine .tq 8 35 B2 ?_; simp only [oqA, oqB, oqC]
          refine AnyG.ready (rs := [10]) (by kernel_rfl) (by simp) ?_
          refine AllG.cons rfl (fun K hK => ?_) (AllG.nil)
          refine step_storeSt rfl _ _ rfl q rfl (stB p.1 (.slice a5 p.1.x.F.length c5) (.slice ar5 p.1.run.length cr5)) _ rfl NA rfl rfl (st_one _ _ _ _ _ _ _) ?_
          intro v3 n3 k3
          have B3 := B2.trans (k3.below B2.size (fun j e => by omega))
          refine hK.out _ _ ⟨B3, fun _ => trivial⟩ ?_
          clear hK K
          have HC := Hd.mk (And.intro B3 (And.intro hq0 (And.intro n3 (And.intro (s5'.stp (k3.mono (T := fun j => j = g ∨ j = q) (fun _ _ e => .inr e)) (T := fun j => j = g ∨ j = q) (fun _ _ e => e)) (t5'.step (k3.mono (T := fun j => j = g ∨ j = q) (fun _ _ e => .inr e)) (T := fun j => j = g ∨ j = q) (fun _ _ e => e)))))) 
          refine AnyG.ready (rs := [11]) (by kernel_rfl) (by simp) ?_
          refine AllG.cons rfl (fun K hK => ?_) (AllG.nil)
          go_simp
          refine hK.out _ _ ⟨B3, fun _ => trivial⟩ ?_
          refine AnyG.done (by kernel_rfl) ?_ _
          clear hK K B2 B3 NA s5' t5' n3 k3 B0
          go_wp2_with fail
          go_meet
          exact ⟨HC.out.1, ⟨q, a5, c5, ar5, cr5, rfl, HC.out.2.1, HC.out.2.2.1, HC.out.2.2.2.1, HC.out.2.2.2.2⟩, ⟨_, _, rfl⟩⟩
      case rest =>
        generalize wc = wd at *
        obtain ⟨bel, ⟨q, a5, c5, ar5, cr5, rfl, hq, P5, s5, t5⟩, ⟨a6, c6, rfl⟩⟩ := hcut
        have HIV : Hd (IvL (k + 1) p.1) := ⟨by rw [HP.out]; exact stX_iv hI.out.iv (by omega) _ (chF_is _ _ _ _).rng⟩
        have HLD : Hd (s.lv.kind ≠ 1 → rnA p.1.run ≤ p.1.lim ∨ rnA p.1.run ≤ rnA s.run) := ⟨fun e => by rw [HP.out]; exact stX_hld e _ _⟩
        have HEND : Hd (kO (H k).o = 2 → dsC p.1 = false) := ⟨fun e => by
          rw [HP.out]
          show dsC (stX s (H k).o _).1 = false
          unfold stX
          rw [if_neg (by omega), if_pos e]
          exact ds_last s⟩
        obtain ⟨y, hy⟩ : ∃ y, y = p.1 := ⟨_, rfl⟩
        rw [← hy] at P5 s5 t5 HIV HLD HEND
        have HYP := Hd.mk hy
        clear hy
        obtain ⟨n5, hn5⟩ : ∃ n5, n5 = y.x.F.length := ⟨_, rfl⟩
        obtain ⟨m5, hm5⟩ : ∃ m5, m5 = y.run.length := ⟨_, rfl⟩
        have HL5 := Hd.mk (And.intro hn5 hm5)
        rw [← hn5, ← hm5] at P5
        have hPg := HX.out.2.2.2.kept (Kept.of_below bel (fun _ => False)) id
        have H5 := Hd.mk (And.intro bel (And.intro hq (And.intro P5 (And.intro s5 (And.intro t5 hPg)))))
        have RA : Hd (∀ Y, Below wd.heap.size wd Y → Calls Try.prog 14 #[.agg (stB y (.slice a5 n5 c5) (.slice ar5 m5 cr5))] Y fun e w' => e = .returned (.int .i64 (rnA y.run)) ∧ Below Y.heap.size Y w') := ⟨fun Y B => by rw [HL5.out.2]; exact runs_ok y _ ar5 cr5 Y (t5.read (Kept.of_below B _)) (by have := HIV.out.run; omega)⟩
        have RS : Hd (∀ Y, Below wd.heap.size wd Y → Calls Try.prog 14 #[.agg (stB s (.slice ax n0 cx) (.slice ar m0 cr))] Y fun e w' => e = .returned (.int .i64 (rnA s.run)) ∧ Below Y.heap.size Y w') := ⟨fun Y B => by rw [HL.out.2]; exact runs_ok s _ ar cr Y (HX.out.2.2.1.read ((Kept.of_below bel _).trans (Kept.of_below B _))) (by have := hI.out.iv.run; omega)⟩
        clear hn5 hm5 P5 s5 t5 bel hq hPg CS
        go_upto_region 8 with fail
        go_cut [49] from 17 to 81 (fun s49 wx => s49 = .bool false ∧ Below wd.heap.size wd wx)
        case first =>
          have B0 : Below wd.heap.size wd wd.drew := (Below.refl _ _).drew
          have LD : Hd (∀ Y, Below wd.heap.size wd Y → Y.cell? ⟨g, 1, none⟩ = some (.int .i64 s.lv.kind) ∧ Y.cell? ⟨q, 11, none⟩ = some (.int .i64 y.lim)) := ⟨fun Y B => ⟨(H5.out.2.2.2.2.2.kept (Kept.of_below B (fun _ => False)) id).cellv 1 rfl, (H5.out.2.2.1.kept (Kept.of_below B (fun _ => False)) id).cellv 11 rfl⟩⟩
          refine AnyG.start (T := fun Y => Below wd.heap.size wd Y) (U := fun _ => True) (j0 := 100) (by kernel_rfl) ?_
          generalize wd.drew = v0 at *
          refine .tq 0 36 B0 ?_; simp only [oqA, oqB, oqC]
          refine .tq 1 37 B0 ?_; simp only [oqA, oqB, oqC]
          refine .tq (v := .int .i64 s.lv.kind) 2 38 B0 ?_ (hy := fun w hSw => by have s := (LD.out w hSw).1; go_simp); simp only [oqA, oqB, oqC]
          by_cases h1 : s.lv.kind = 1
          · have hb1 : (s.lv.kind != 1) = false := by simp [h1]
            refine .tq (v := .bool false) 3 39 B0 ?_ (hy := fun w hSw => by go_simp); simp only [oqA, oqB, oqC]
            refine .tq (v := .bool false) 4 40 B0 ?_ (hy := fun w hSw => by go_simp); simp only [oqA, oqB, oqC]
            refine .sq 5 41 B0 ?_; simp only [oqA, oqB, oqC]
            refine .sq 6 42 B0 ?_; simp only [oqA, oqB, oqC]
            refine .sq 7 43 B0 ?_; simp only [oqA, oqB, oqC]
            refine .sq 8 44 B0 ?_; simp only [oqA, oqB, oqC]
            refine .sq 9 45 B0 ?_; simp only [oqA, oqB, oqC]
            refine .sq 10 46 B0 ?_; simp only [oqA, oqB, oqC]
            refine .sq 11 47 B0 ?_; simp only [oqA, oqB, oqC]
            refine .sq 12 48 B0 ?_; simp only [oqA, oqB, oqC]
            refine .tq (v := .bool false) 13 49 B0 ?_ (hy := fun w hSw => by go_simp); simp only [oqA, oqB, oqC]
            refine AnyG.done (by kernel_rfl) ?_ _
            have HZ := Hd.mk B0
            clear B0
            go_wp2_with fail
            go_meet
            exact ⟨rfl, HZ.out⟩
          · have hb1 : (s.lv.kind != 1) = true := by simpa using h1
            have hle : ¬ max y.lim (rnA s.run) < rnA y.run := by
              have := HLD.out h1
              omega
            have hdd : decide (max y.lim (rnA s.run) < rnA y.run) = false := decide_eq_false hle
            refine .tq (v := .bool true) 3 39 B0 ?_ (hy := fun w hSw => by go_simp); simp only [oqA, oqB, oqC]
            refine .tq (v := .bool true) 4 40 B0 ?_ (hy := fun w hSw => by go_simp); simp only [oqA, oqB, oqC]
            refine .tq (v := .agg (stB y (.slice a5 n5 c5) (.slice ar5 m5 cr5))) 5 41 B0 ?_ (hy := fun w hSw => exec_loadSt _ rfl q rfl _ (H5.out.2.2.1.kept (Kept.of_below hSw (fun _ => False)) id) rfl); simp only [oqA, oqB, oqC]
            refine .tq 7 43 B0 ?_; simp only [oqA, oqB, oqC]
            refine .tq (v := .int .i64 y.lim) 8 44 B0 ?_ (hy := fun w hSw => by have s := (LD.out w hSw).2; go_simp); simp only [oqA, oqB, oqC]
            refine .tq (v := .agg (stB s (.slice ax n0 cx) (.slice ar m0 cr))) 9 45 B0 ?_ (hy := fun w hSw => exec_loadSt _ rfl g rfl _ (H5.out.2.2.2.2.2.kept (Kept.of_below hSw (fun _ => False)) id) rfl); simp only [oqA, oqB, oqC]
            refine AnyG.ready (rs := [6]) (by kernel_rfl) (by simp) ?_
            refine AllG.cons rfl (fun K hK => ?_) (AllG.nil)
            go_simp
            refine (RA.out v0 B0).mono ?_
            rintro e v1 ⟨rfl, b1⟩
            have B1 := B0.trans (b1.mono B0.size)
            refine hK.out _ _ ⟨B1, fun _ => trivial⟩ ?_
            clear hK K b1 B0
            refine AnyG.ready (rs := [10]) (by kernel_rfl) (by simp) ?_
            refine AllG.cons rfl (fun K hK => ?_) (AllG.nil)
            go_simp
            refine (RS.out v1 B1).mono ?_
            rintro e v2 ⟨rfl, b2⟩
            have B2 := B1.trans (b2.mono B1.size)
            refine hK.out _ _ ⟨B2, fun _ => trivial⟩ ?_
            clear hK K b2 B1
            refine .tq (v := .int .i64 (max y.lim (rnA s.run))) 11 47 B2 ?_ (hy := fun w hSw => by go_simp); simp only [oqA, oqB, oqC]
            refine .tq (v := .bool false) 12 48 B2 ?_ (hy := fun w hSw => by go_simp); simp only [oqA, oqB, oqC]
            refine .tq (v := .bool false) 13 49 B2 ?_ (hy := fun w hSw => by go_simp); simp only [oqA, oqB, oqC]
            refine AnyG.done (by kernel_rfl) ?_ _
            have HZ := Hd.mk B2
            clear B2
            go_wp2_with fail
            go_meet
            exact ⟨rfl, HZ.out⟩
        case rest =>
          obtain ⟨rfl, b8⟩ := hcut
          have P8 := H5.out.2.2.1.kept (Kept.of_below b8 (fun _ => False)) id
          have G8 := H5.out.2.2.2.2.2.kept (Kept.of_below b8 (fun _ => False)) id
          have H8 := Hd.mk (And.intro b8 (And.intro P8 G8))
          clear RA RS b8 P8 G8
          obtain ⟨w8, hw8⟩ : ∃ w8, w8 = wc := ⟨_, rfl⟩
          go_upto_region 11 with (first | (refine wpl_loadSt rfl _ rfl q rfl _ H8.out.2.1 rfl ?_) | (refine wpl_storeSt rfl _ _ rfl g rfl (stB y (.slice a5 n5 c5) (.slice ar5 m5 cr5)) _ rfl H8.out.2.2 rfl rfl (st_one _ _ _ _ _ _ _) ?_; intro w10 n10 k10))
          have HR : Hd (∀ W, Below w10.heap.size w10 W → HoI w g (k + 1) y W) := ⟨fun W B => by
            have h1 := hI.out.bel
            have h2 := H5.out.1
            have h3 := H8.out.1
            have lg := hI.out.lg
            have z1 := h1.size
            have z2 := h2.size
            have z3 := h3.size
            have z4 := k10.size
            have bel : Below w.heap.size w W := (((h1.trans (h2.mono z1)).trans (h3.mono (by omega))).trans (k10.below (by omega) (fun j e => by omega))).trans (B.mono (by omega))
            have kk : Kept (fun j => j = g ∨ j = q) wd W := ((Kept.of_below h3 _).trans (k10.mono (fun j _ e => .inl e))).trans (Kept.of_below B _)
            refine ⟨bel, lg, ⟨a5, c5, ar5, cr5, ?_, H5.out.2.2.2.1.stp kk (fun j _ e => .inl e), H5.out.2.2.2.2.1.step kk (fun j _ e => .inl e)⟩, HIV.out⟩
            rw [← HL5.out.1, ← HL5.out.2]
            exact n10.kept (Kept.of_below B (fun _ => False)) id⟩
          have x0 : w10.cell? ⟨b, off + k * 19, none⟩ = some (.int .i64 (H k).o.d) := by
            obtain ⟨b', off', e, RW', -⟩ := HW.out.2.2.row hlt
            cases e
            exact RW' w10 (HR.out w10 (Below.refl _ _)).bel 0 _ rfl
          have hbx : Hd (n10 = n10) := ⟨rfl⟩
          have H10 := Hd.mk n10
          clear k10 hbx n10 H8
          by_cases hk2 : kO (H k).o = 2
          · have hkk : (IntKind.u64.wrap (H k).o.d).tmod 8 = 2 := hk2
            have hE := HEND.out hk2
            obtain ⟨⟨y0, y1, y2, y3, y4⟩, -⟩ := H10.out.stx
            have lan : ∀ W, Below w10.heap.size w10 W → LsR W a5 c5 y.x.F := fun W B => by
              obtain ⟨a', c', ar', cr', P', s', t'⟩ := (HR.out W B).box
              have e1 : some (Value.slice a' y.x.F.length c') = some (Value.slice a5 n5 c5) := (P'.cellv 21 rfl).symm.trans ((H10.out.kept (Kept.of_below B (fun _ => False)) id).cellv 21 rfl)
              have e2 : Value.slice a' y.x.F.length c' = Value.slice a5 n5 c5 := by injection e1
              obtain ⟨rfl, -, rfl⟩ : a' = a5 ∧ True ∧ c' = c5 := by injection e2 with x1 x2 x3; exact ⟨x1, trivial, x3⟩
              exact s'.read (Kept.refl _ _)
            have NX : Calls Try.prog 15 #[.agg #[.int .u64 y.x.r, .int .i64 y.x.g, .int .i64 y.x.n, .int .i64 y.x.o, .slice a5 n5 c5]] w10 fun e w' => e = .returned (.tuple #[.int .i64 (nI (nxt y.x.F y.x.g)), .bool (nB (nxt y.x.F y.x.g))]) ∧ Below w10.heap.size w10 w' := by
              rw [HL5.out.1]
              exact next_ok y.x.r y.x.g y.x.n y.x.o a5 c5 y.x.F w10 (lan _ (Below.refl _ _)) HIV.out.few
            rcases nxt_is y.x.F y.x.g with ⟨e, -⟩ | ⟨pp, -, hpp, e, hne, -⟩
            · rw [e, show nI (-1) = 0 from rfl, show nB (-1) = false from rfl] at NX
              clear lan hE e
              go_upto_region 13 with (go_at_call 15; refine NX.mono ?_; rintro e w12 ⟨rfl, b12⟩)
              have HR2 := Hd.mk (HR.out w12 b12)
              clear NX y0 y1 y2 y3 y4 x0 b12 HR
              go_wp2_with fail
              go_roundw
              case rel => exact ⟨k + 1, y, by omega, by omega, by go_num, HR2⟩
              case measure => simp [intOf]; omega
            · have hft : ftB y (gt (gl y.x.F pp).L 0).wid = false := by
                unfold dsC at hE
                rw [e, decide_eq_true (show (0 : Int) ≤ (pp : Int) by omega), Bool.true_and, (tk_less e hpp hne).1] at hE
                exact hE
              rw [e, nI_nat, show nB (pp : Int) = true from decide_eq_true (by omega)] at NX
              obtain ⟨b1, o1, a1, c1, rfl, hb1, d0, d1, s1⟩ := (lan _ (Below.refl _ _)).at hpp
              obtain ⟨b2, o2, rfl, hb2, -, e1, -, -, -⟩ := s1.2.2.at (k := 0) (List.length_pos_iff.2 hne)
              obtain ⟨ql, hql⟩ : ∃ ql, ql = (gl y.x.F pp).L.length := ⟨_, rfl⟩
              have hq0 : 0 < ql := by rw [hql]; exact List.length_pos_iff.2 hne
              rw [← hql] at d1
              obtain ⟨wdd, hwdd⟩ : ∃ wdd, wdd = (gt (gl y.x.F pp).L 0).wid := ⟨_, rfl⟩
              rw [← hwdd] at e1 hft
              have HD : Hd (∀ W, Below w10.heap.size w10 W → W.cell? ⟨b1, o1 + pp * 2 + 1, none⟩ = some (.slice (some ⟨b2, o2, none⟩) ql c1) ∧ W.cell? ⟨b2, o2 + 1, none⟩ = some (.int .i64 wdd) ∧ W.cell? ⟨g, 21, none⟩ = some (.slice (some ⟨b1, o1, none⟩) n5 c5) ∧ Blk W g 36 (stB y (.slice (some ⟨b1, o1, none⟩) n5 c5) (.slice ar5 m5 cr5))) := ⟨fun W b => ⟨(b.cell (p := ⟨b1, o1 + pp * 2 + 1, none⟩) hb1).trans d1, (b.cell (p := ⟨b2, o2 + 1, none⟩) hb2).trans (by simpa using e1), (H10.out.kept (Kept.of_below b (fun _ => False)) id).cellv 21 rfl, H10.out.kept (Kept.of_below b (fun _ => False)) id⟩⟩
              have FT : Hd (∀ W, Below w10.heap.size w10 W → Calls Try.prog 16 #[.agg (stB y (.slice (some ⟨b1, o1, none⟩) n5 c5) (.slice ar5 m5 cr5)), .int .i64 wdd] W fun e w' => e = .returned (.tuple #[.int .i64 (ftN y wdd), .bool false]) ∧ Below W.heap.size W w') := ⟨fun W B => by
                have A := fits_ok y (.slice (some ⟨b1, o1, none⟩) n5 c5) ar5 cr5 wdd W (by
                  obtain ⟨a', c', ar', cr', P', s', t'⟩ := (HR.out W B).box
                  have e1 : some (Value.slice ar' y.run.length cr') = some (Value.slice ar5 m5 cr5) := (P'.cellv 22 rfl).symm.trans ((HD.out W B).2.2.2.cellv 22 rfl)
                  have e2 : Value.slice ar' y.run.length cr' = Value.slice ar5 m5 cr5 := by injection e1
                  obtain ⟨rfl, -, rfl⟩ : ar' = ar5 ∧ True ∧ cr' = cr5 := by injection e2 with x1 x2 x3; exact ⟨x1, trivial, x3⟩
                  exact t'.read (Kept.refl _ _)) (by have := HIV.out.run; omega)
                rw [hft, ← HL5.out.2] at A
                exact A⟩
              have i2 : (pp : Int) < (n5 : Int) := by rw [HL5.out.1]; omega
              have i3 : (0 : Int) < (ql : Int) := by omega
              clear d0 d1 e1 s1 hql hwdd hne hft lan hE e hpp
              go_upto_region 14 with (go_at_call 15; refine NX.mono ?_; rintro e w12 ⟨rfl, b12⟩)
              clear NX y0 y1 y2 y3 y4 x0
              have B0 : Below w10.heap.size w10 w12.drew := b12.drew
              refine AnyG.start (T := fun Y => Below w10.heap.size w10 Y) (U := fun _ => True) (j0 := 100) (by kernel_rfl) ?_
              clear b12
              generalize w12.drew = v0 at *
              refine .tq (v := .agg (stB y (.slice (some ⟨b1, o1, none⟩) n5 c5) (.slice ar5 m5 cr5))) 0 67 B0 ?_ (hy := fun w hSw => exec_loadSt _ rfl g rfl _ (HD.out w hSw).2.2.2 rfl); simp only [oqA, oqB, oqC]
              refine .tq 1 68 B0 ?_; simp only [oqA, oqB, oqC]
              refine .tq 2 69 B0 ?_; simp only [oqA, oqB, oqC]
              refine .tq (v := .slice (some ⟨b1, o1, none⟩) n5 c5) 3 70 B0 ?_ (hy := fun w hSw => by have s := (HD.out w hSw).2.2.1; go_simp); simp only [oqA, oqB, oqC]
              refine .tq 4 71 B0 ?_; simp only [oqA, oqB, oqC]
              refine .tq (v := .pointer (some ⟨b1, o1 + pp * 2, none⟩)) 5 72 B0 ?_ (hy := fun w hSw => by go_simp); simp only [oqA, oqB, oqC]
              refine .tq 6 73 B0 ?_; simp only [oqA, oqB, oqC]
              refine .tq (v := .slice (some ⟨b2, o2, none⟩) ql c1) 7 74 B0 ?_ (hy := fun w hSw => by have s := (HD.out w hSw).1; go_simp); simp only [oqA, oqB, oqC]
              refine .tq (v := .pointer (some ⟨b2, o2, none⟩)) 8 75 B0 ?_ (hy := fun w hSw => by go_simp); simp only [oqA, oqB, oqC]
              refine .tq 9 76 B0 ?_; simp only [oqA, oqB, oqC]
              refine .tq (v := .int .i64 wdd) 10 77 B0 ?_ (hy := fun w hSw => by have s := (HD.out w hSw).2.1; go_simp); simp only [oqA, oqB, oqC]
              refine AnyG.ready (rs := [11]) (by kernel_rfl) (by simp) ?_
              refine AllG.cons rfl (fun K hK => ?_) (AllG.nil)
              go_simp
              refine (FT.out v0 B0).mono ?_
              rintro e v1 ⟨rfl, b1'⟩
              have B1 := B0.trans (b1'.mono B0.size)
              refine hK.out _ _ ⟨B1, fun _ => trivial⟩ ?_
              clear hK K b1' B0
              refine .tq 12 66 B1 ?_; simp only [oqA, oqB, oqC]
              refine .tq 13 79 B1 ?_; simp only [oqA, oqB, oqC]
              refine .tq 14 80 B1 ?_; simp only [oqA, oqB, oqC]
              refine .tq 15 11 B1 ?_; simp only [oqA, oqB, oqC]
              refine .tq 16 12 B1 ?_; simp only [oqA, oqB, oqC]
              refine AnyG.done (by kernel_rfl) ?_ _
              have HR2 := Hd.mk (HR.out v1 B1)
              clear B1 HR FT HD
              go_wp2_with fail
              go_roundw
              case rel => exact ⟨k + 1, y, by omega, by omega, by go_num, HR2⟩
              case measure => simp [intOf]; omega
          · have hkk : ((IntKind.u64.wrap (H k).o.d).tmod 8 == 2) = false := by simpa [kO] using hk2
            have HR2 := Hd.mk (HR.out w10 (Below.refl _ _))
            clear HR HEND hk2
            go_wp2_with fail
            go_roundw
            case rel => exact ⟨k + 1, y, by omega, by omega, by go_num, HR2⟩
            case measure => simp [intOf]; omega
    · have HE := Hd.mk hI.out.bel
      clear hI
      by_cases hlt : k < n
      · obtain rfl : k = 100 := by omega
        go_wp2
        go_ret
        exact ⟨rfl, HE.out⟩
      · have hge : n ≤ k := by omega
        go_wp2
        go_ret
        exact ⟨rfl, HE.out⟩
end Go.Proofs.Ytlgibnmoogbdcaa
