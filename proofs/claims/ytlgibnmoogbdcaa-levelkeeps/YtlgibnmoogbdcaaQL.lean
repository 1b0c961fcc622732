/-
  Nobody is lost, or there twice: the walk. Condition: the script lies in memory.
-/
import Derived.Test.YtlgibnmoogbdcaaQH
import Derived.Test.YtlgibnmoogbdcaaQK
namespace Go.Proofs.Ytlgibnmoogbdcaa
open Go.RowKit

theorem opA_size (q : Od) (ah : Option Addr) (nh ch : Nat) : (opA q ah nh ch).size = 19 := rfl
theorem opA_one (q : Od) (ah : Option Addr) (nh ch : Nat) : (opA q ah nh ch).all (·.oneCell') = true := by
  unfold opA
  simp [Value.oneCell']
theorem wpl_storeOp {ops : Array Oper} {rest : List Oper} {o : Oper} {a : Act} {w : World} {Q : Exit → Act → World → Prop} (hgd : o.guard = none) (x y : Operand) (ho : o.op = .store 45 x y) (g : Nat) (hx : a.eval x = .pointer (some ⟨g, 0, none⟩)) (cs old : Array Value) (hy : a.eval y = .agg cs) (hb : Blk w g 45 old) (hz : old.size = 19) (hz' : cs.size = 19) (h1 : cs.all (·.oneCell') = true)
    (h : ∀ w', Blk w' g 45 cs → Kept (fun k => k = g) w w' → wpList Try.prog ops Q rest (a.put o.dst undef) w') : wpList Try.prog ops Q (o :: rest) a w :=
  wpList_plain hgd fun _ hK => by
    refine wp_store_mid 45 x y ho g 0 cs hx hy (hb.there (by rw [hz, hz']; exact Nat.le_refl _)) (by rw [hz']; kernel_rfl) h1 ?_
    obtain ⟨h2, h3⟩ := hb.put (vs := cs.toList) (by rw [hz, Array.length_toList, hz'])
    exact hK _ _ (h _ h2 h3)
theorem wpl_loadSt_g {ops : Array Oper} {rest : List Oper} {o : Oper} {a : Act} {w : World} {Q : Exit → Act → World → Prop} (hw : Region.wanted o (yielded ops a.tmps) = true) (x : Operand) (ho : o.op = .load 36 x) (g : Nat) (hx : a.eval x = .pointer (some ⟨g, 0, none⟩)) (cs : Array Value) (hb : Blk w g 36 cs) (hz : cs.size = 23)
    (h : wpList Try.prog ops Q rest (a.put o.dst (.agg cs)) w) : wpList Try.prog ops Q (o :: rest) a w :=
  wpList_step fun K hK => by
    rw [if_pos hw]
    exact wp_loadSt x ho g hx cs hb hz (hK _ _ h)
theorem Blk.opr {w : World} {g : Nat} {q : Od} {ah : Option Addr} {nh ch : Nat} (h : Blk w g 45 (opA q ah nh ch)) : w.rangeAt g 0 (opA q ah nh ch).toList := fun j v hv => by
  rw [Nat.zero_add, h.cell]
  simpa using hv
theorem named_set {w : World} {g : Nat} {q : Od} {ah : Option Addr} {nh ch : Nat} (h : Blk w g 45 (opA q ah nh ch)) (i : Int) : Blk (w.setCell ⟨g, 1, none⟩ (.int .i64 i)) g 45 (opA (named q i) ah nh ch) ∧ Kept (fun k => k = g) w (w.setCell ⟨g, 1, none⟩ (.int .i64 i)) := by
  refine ⟨?_, (Kept.refl (fun k => k = g) w).setCell _ _ (.inl rfl)⟩
  have := h.set 1 (.int .i64 i)
  simpa [opA, named] using this
/-- What there is before each round. -/
structure KeI (w : World) (g k : Nat) (s : St) (i j : Int) (W : World) : Prop where
  ho : HoI w g k s W
  kp : ∃ n, Kp s n (1000 + (k : Int)) ∧ i - j = (n : Int)
  rng : 0 ≤ j ∧ i ≤ k

set_option maxRecDepth 20000 in
set_option maxHeartbeats 4000000 in
theorem keeps_law (l : Lv) (H : Nat → Oq) (a : Option Addr) (n c : Nat) (w : World) (hn : OqR w a n H) (hb : n ≤ 9223372036854775807) :
    Calls Try.prog 5 #[.agg #[.string l.name, .int .i64 l.kind, .int .i64 l.shares, .int .i64 l.lend, .int .i64 l.borrow, .int .i64 l.queues, .int .i64 l.hand, .int .i64 l.length, .int .i64 l.wait, .int .i64 l.guess], .slice a n c] w fun e w' => e = .returned (.bool true) ∧ Below w.heap.size w w' := by
  obtain ⟨w1, hw1⟩ : ∃ w1, w1 = w.alloc (.cells #[.string l.name, .int .i64 l.kind, .int .i64 l.shares, .int .i64 l.lend, .int .i64 l.borrow, .int .i64 l.queues, .int .i64 l.hand, .int .i64 l.length, .int .i64 l.wait, .int .i64 l.guess] 23) := ⟨_, rfl⟩
  have B1 : Below w.heap.size w w1 := by rw [hw1]; exact alloc_below _ _
  have N1 : Blk w1 w.heap.size 23 (lvA l) := by rw [hw1]; exact Blk.new _ _ _
  have AW := awake_ok w1
  have HW := Hd.mk (And.intro B1 (And.intro N1 hn))
  clear B1 N1 hn
  go_enter Try.func5, Try.ntmps5
  go_upto_region 1 with fail
  rw [← hw1]
  clear hw1
  go_wp2_with fail
  go_at_call 6
  refine AW.mono ?_
  rintro e w2 ⟨rfl, b2⟩
  clear AW
  have N2 := HW.out.2.1.kept (Kept.of_below b2 (fun _ => False)) id
  obtain ⟨d0, d1, d2, d3, d4, d5, d6, d7, d8, d9⟩ := N2.lv
  have OP := open_st l w2 (fun _ => False) (fun _ h => h.elim)
  have HB2 := Hd.mk b2
  clear N2 b2
  go_wp2_with fail
  go_at_call 7
  refine OP.mono ?_
  rintro e w3 ⟨⟨v3, rfl, v3e⟩, b3⟩
  clear OP d0 d1 d2 d3 d4 d5 d6 d7 d8 d9
  obtain ⟨a3, c3, ar3, cr3, rfl, s3, t3⟩ := v3e
  obtain ⟨w4, hw4⟩ : ∃ w4, w4 = w3.alloc (.cells #[.string { data := #[] }, .int .i64 0, .int .i64 0, .int .i64 0, .int .i64 0, .int .i64 0, .int .i64 0, .int .i64 0, .int .i64 0, .int .i64 0, .bool false, .int .i64 0, .int .i64 0, .int .i64 0, .int .i64 0, .int .i64 0, .int .i64 0, .int .u64 0, .int .i64 0, .int .i64 0, .int .i64 0, .slice none 0 0, .slice none 0 0] 36) := ⟨_, rfl⟩
  have P4 : Blk w4 w3.heap.size 36 (stB sZ (.slice none 0 0) (.slice none 0 0)) := by rw [hw4]; exact Blk.new _ _ _
  have B4 : Below w3.heap.size w3 w4 := by rw [hw4]; exact alloc_below _ _
  have H4 := Hd.mk (And.intro b3 (And.intro B4 (And.intro s3 t3)))
  clear b3 B4 s3 t3
  go_upto_region 4 with (rw [← hw4]; refine wpl_storeSt rfl _ _ rfl w3.heap.size rfl (stB (opS l) (.slice a3 (opS l).x.F.length c3) (.slice ar3 (opS l).run.length cr3)) _ rfl P4 rfl rfl (st_one _ _ _ _ _ _ _) ?_; intro w5 n5 k5)
  clear hw4 P4
  obtain ⟨g, hg⟩ : ∃ g, g = w3.heap.size := ⟨_, rfl⟩
  have hI0 : HoI w g 0 (opS l) w5 := by
    have h1 := HW.out.1
    have h2 := HB2.out
    have h4 := H4.out
    rw [← hg] at k5 n5
    have z1 := h1.size
    have z2 := h2.size
    have z3 := h4.1.size
    have z4 := h4.2.1.size
    have k4 := Kept.of_below h4.2.1 (fun j => j = g)
    refine ⟨(((h1.trans (h2.mono (by omega))).trans (h4.1.mono (by omega))).trans (h4.2.1.mono (by omega))).trans (k5.below (by omega) (fun j e => by omega)), by omega, ⟨a3, c3, ar3, cr3, n5, ?_, ?_⟩, IvL.start l⟩
    · exact (h4.2.2.1.stp (Kept.of_below h4.2.1 _) (T := fun j => j = g) (fun j hj e => by omega)).stp k5 (fun _ _ e => e)
    · exact (h4.2.2.2.step (Kept.of_below h4.2.1 _) (T := fun j => j = g) (fun j hj e => by omega)).step k5 (fun _ _ e => e)
  rw [← hg]
  have HI0 := Hd.mk hI0
  clear hI0 n5 k5 hg H4 HB2
  go_wp2_with fail
  go_loopw [6, 7, 8] (fun v6 v7 v8 wr => ∃ (k : Nat) (s : St) (i j : Int), k ≤ n ∧ k ≤ 100 ∧ v6 = .int .i64 i ∧ v7 = .int .i64 j ∧ v8 = .int .i64 k ∧ Hd (KeI w g k s i j wr)) (fun _ _ v8 _ => n - (intOf v8).toNat)
  case atStart => exact ⟨0, _, 0, 0, Nat.zero_le _, by decide, rfl, rfl, rfl, ⟨⟨HI0.out, ⟨0, Kp.start l, rfl⟩, by decide⟩⟩⟩
  case round =>
    obtain ⟨k, s, i, j, hk, hk1, rfl, rfl, rfl, hI⟩ := hrel
    clear HI0
    by_cases hend : k < n ∧ k < 100
    · obtain ⟨hlt, hlt1⟩ := hend
      obtain ⟨ax, cx, ar, cr, P, sx, tx⟩ := hI.out.ho.box
      obtain ⟨b, off, rfl, RW, ok⟩ := (HW.out.2.2.carry hI.out.ho.bel).row hlt
      obtain ⟨n0, hn0⟩ : ∃ n0, n0 = s.x.F.length := ⟨_, rfl⟩
      obtain ⟨m0, hm0⟩ : ∃ m0, m0 = s.run.length := ⟨_, rfl⟩
      have HL := Hd.mk (And.intro hn0 hm0)
      rw [← hn0, ← hm0] at P
      have i1 : (k : Int) < (n : Int) := by omega
      obtain ⟨w1, hw1⟩ : ∃ w1, w1 = wr.alloc (.cells #[.int .i64 0, .int .i64 0, .int .i64 0, .int .i64 0, .int .i64 0, .int .i64 0, .slice none 0 0, .int .i64 0, .string { data := #[] }, .int .i64 0, .int .i64 0, .int .i64 0, .int .i64 0, .int .i64 0, .int .i64 0, .int .i64 0, .int .i64 0, .int .i64 0, .bool false] 45) := ⟨_, rfl⟩
      have BZ : Below wr.heap.size wr w1 := by rw [hw1]; exact alloc_below _ _
      have MZ : Blk w1 wr.heap.size 45 #[.int .i64 0, .int .i64 0, .int .i64 0, .int .i64 0, .int .i64 0, .int .i64 0, .slice none 0 0, .int .i64 0, .string { data := #[] }, .int .i64 0, .int .i64 0, .int .i64 0, .int .i64 0, .int .i64 0, .int .i64 0, .int .i64 0, .int .i64 0, .int .i64 0, .bool false] := by rw [hw1]; exact Blk.new _ _ _
      obtain ⟨q9, hq9⟩ : ∃ q9, q9 = wr.heap.size := ⟨_, rfl⟩
      rw [← hq9] at MZ
      have HX := Hd.mk (And.intro RW (And.intro sx (And.intro tx (And.intro P (And.intro ok (And.intro BZ (And.intro MZ hq9)))))))
      clear hn0 hm0 RW sx tx P ok BZ MZ
      go_upto_region 9 with (first | (refine wpl_loadOp rfl _ rfl b (off + k * 19) rfl (H k).o (H k).ha (H k).hn (H k).hc (HX.out.1 _ (Below.refl _ _)) ?_) | (rw [← hw1, ← hq9]; refine wpl_storeOp rfl _ _ rfl q9 rfl (opA (H k).o (H k).ha (H k).hn (H k).hc) _ rfl HX.out.2.2.2.2.2.2.1 rfl rfl (opA_one _ _ _ _) ?_; intro w2 n2 k2))
      clear hw1 hq9
      have e1 : w2.cell? ⟨q9, 1, none⟩ = some (.int .i64 (H k).o.t.id) := n2.cellv 1 rfl
      have f1 := n2.frozen 1
      obtain ⟨Q3, K3⟩ := named_set n2 (1000 + (k : Int))
      have H3 := Hd.mk (And.intro (HX.out.2.2.2.2.2.1) (And.intro k2 (And.intro K3 Q3)))
      clear n2 k2 Q3 K3
      go_upto_region 10 with fail
      clear e1 f1
      generalize w2.setCell ⟨q9, 1, none⟩ (.int .i64 (1000 + (k : Int))) = w3 at *
      have hq9 : q9 = wr.heap.size := HX.out.2.2.2.2.2.2.2
      have k13 : Kept (fun j => j = q9) w1 w3 := H3.out.2.1.trans H3.out.2.2.1
      have kr3 : Below wr.heap.size wr w3 := H3.out.1.trans (k13.below H3.out.1.size (fun j e => by omega))
      have hgr : g < wr.heap.size := HX.out.2.2.2.1.lt
      have G3 : Blk w3 g 36 (stB s (.slice ax n0 cx) (.slice ar m0 cr)) := HX.out.2.2.2.1.kept (Kept.of_below kr3 (fun _ => False)) id
      obtain ⟨cc, hcc⟩ : ∃ cc, cc = chF s.x.F s.x.o (H k).hf (min (H k).hn 20) := ⟨_, rfl⟩
      obtain ⟨p, hp⟩ : ∃ p, p = stX s (named (H k).o (1000 + (k : Int))) cc := ⟨_, rfl⟩
      have CS : Calls Try.prog 10 #[.agg (stB s (.slice ax n0 cx) (.slice ar m0 cr)), .agg (opA (named (H k).o (1000 + (k : Int))) (H k).ha (H k).hn (H k).hc)] w3 fun e w' => StA (fun j => j = g) w' p e ∧ Below w3.heap.size w3 w' := by
        rw [hp, hcc, HL.out.1, HL.out.2]
        exact step_ok s (named (H k).o (1000 + (k : Int))) ax cx ar cr (H k).ha (H k).hn (H k).hc (H k).hf w3 (fun j => j = g) (HX.out.2.1.high kr3 (fun _ _ e => e)) (HX.out.2.2.1.high kr3 (fun _ _ e => e)) (fun j e => by rw [e]; exact G3.lt) hI.out.ho.iv.few (Nat.le_trans hI.out.ho.iv.cnt (by omega)) (HX.out.2.2.2.2.1.1.carry kr3) HX.out.2.2.2.2.1.2.2.1
      have HP : Hd (IvL (k + 1) p.1 ∧ (∃ n', Kp p.1 n' (1000 + ((k + 1 : Nat) : Int)) ∧ inN s (H k).o p.1 i - outN (H k).o p.2.length j = (n' : Int))) := by
        have hr : cc = -1 ∨ Vld s.x.F s.x.o cc := by rw [hcc]; exact (chF_is _ _ _ _).rng
        obtain ⟨nn, kp, en⟩ := hI.out.kp
        rw [hp]
        exact ⟨stX_iv hI.out.ho.iv (by omega) _ hr, keep_step kp en (H k).o hr⟩
      have H4 := Hd.mk (And.intro kr3 (And.intro G3 (H3.out.2.2.2)))
      clear hp hcc k13 kr3 G3 hgr hq9 H3
      go_wp2_with (first | (refine wpl_loadSt rfl _ rfl g rfl _ H4.out.2.1 rfl ?_) | (refine wpl_loadOp rfl _ rfl q9 0 rfl (named (H k).o (1000 + (k : Int))) (H k).ha (H k).hn (H k).hc H4.out.2.2.opr ?_))
      go_at_call 10
      refine CS.mono ?_
      rintro e w4 ⟨⟨v4, u4, rfl, v4e, a6, c6, rfl, t6⟩, b4⟩
      clear CS t6
      obtain ⟨a5, c5, ar5, cr5, rfl, s5, t5⟩ := v4e
      obtain ⟨y, hy⟩ : ∃ y, y = p.1 := ⟨_, rfl⟩
      obtain ⟨l6, hl6⟩ : ∃ l6, l6 = p.2.length := ⟨_, rfl⟩
      rw [← hy] at HP s5 t5 ⊢
      rw [← hl6] at HP ⊢
      clear hy hl6
      obtain ⟨n5, hn5⟩ : ∃ n5, n5 = y.x.F.length := ⟨_, rfl⟩
      obtain ⟨m5, hm5⟩ : ∃ m5, m5 = y.run.length := ⟨_, rfl⟩
      have HL5 := Hd.mk (And.intro hn5 hm5)
      rw [← hn5, ← hm5]
      clear hn5 hm5
      obtain ⟨w5, hw5⟩ : ∃ w5, w5 = w4.alloc (.cells #[.string { data := #[] }, .int .i64 0, .int .i64 0, .int .i64 0, .int .i64 0, .int .i64 0, .int .i64 0, .int .i64 0, .int .i64 0, .int .i64 0, .bool false, .int .i64 0, .int .i64 0, .int .i64 0, .int .i64 0, .int .i64 0, .int .i64 0, .int .u64 0, .int .i64 0, .int .i64 0, .int .i64 0, .slice none 0 0, .slice none 0 0] 36) := ⟨_, rfl⟩
      have P5 : Blk w5 w4.heap.size 36 (stB sZ (.slice none 0 0) (.slice none 0 0)) := by rw [hw5]; exact Blk.new _ _ _
      have B5 : Below w4.heap.size w4 w5 := by rw [hw5]; exact alloc_below _ _
      obtain ⟨q, hq⟩ : ∃ q, q = w4.heap.size := ⟨_, rfl⟩
      rw [← hq] at P5
      have H5 := Hd.mk (And.intro b4 (And.intro s5 (And.intro t5 (And.intro B5 hq))))
      clear b4 s5 t5 B5
      go_upto_region 11 with (rw [← hw5, ← hq]; refine wpl_storeSt rfl _ _ rfl q rfl (stB y (.slice a5 n5 c5) (.slice ar5 m5 cr5)) _ rfl P5 rfl rfl (st_one _ _ _ _ _ _ _) ?_; intro w6 n6 k6)
      have HQ := Hd.mk hq
      clear hw5 hq P5
      have H6 : Hd (Below wr.heap.size wr w6 ∧ Blk w6 g 36 (stB s (.slice ax n0 cx) (.slice ar m0 cr)) ∧ Blk w6 q 36 (stB y (.slice a5 n5 c5) (.slice ar5 m5 cr5)) ∧ StR (fun j => j = g ∨ j = q) w6 a5 c5 y.x.F ∧ TkS (fun j => j = g ∨ j = q) w6 ar5 cr5 y.run ∧ StR (fun j => j = g) w6 ax cx s.x.F ∧ TkS (fun j => j = g) w6 ar cr s.run) := by
        obtain ⟨b4, s5, t5, B5, hq⟩ := H5.out
        obtain ⟨kr3, G3, O3⟩ := H4.out
        have z1 := kr3.size
        have z2 := b4.size
        have z3 := B5.size
        have hgr := HX.out.2.2.2.1.lt
        have bel : Below wr.heap.size wr w6 := ((kr3.trans (b4.mono z1)).trans (B5.mono (by omega))).trans (k6.below (by omega) (fun j e => by omega))
        have e7 : ∀ j, j < w4.heap.size → (j = g ∨ j = q) → j = g := fun j hj e => e.elim id (fun e => absurd e (by omega))
        have k6' := k6.mono (T := fun j => j = g ∨ j = q) (fun j _ e => .inr e)
        exact ⟨bel, HX.out.2.2.2.1.kept (Kept.of_below bel (fun _ => False)) id, n6, (s5.stp (Kept.of_below B5 _) e7).stp k6' (fun _ _ e => e), (t5.step (Kept.of_below B5 _) e7).step k6' (fun _ _ e => e), HX.out.2.1.high bel (fun _ _ e => e), HX.out.2.2.1.high bel (fun _ _ e => e)⟩
      have x0 : w6.cell? ⟨q9, 0, none⟩ = some (.int .i64 (H k).o.d) := by
        obtain ⟨b4, s5, t5, B5, hq⟩ := H5.out
        obtain ⟨kr3, G3, O3⟩ := H4.out
        have z2 := b4.size
        exact (((O3.kept (Kept.of_below b4 (fun _ => False)) id).kept (Kept.of_below B5 (fun _ => False)) id).kept k6 (by have := O3.lt; omega)).cellv 0 rfl
      clear H4 H5 n6 k6
      go_upto_block 2 with fail
      rw [← HQ.out]
      clear x0
      have R := kO_rng (H k).o
      obtain ⟨kd, hkd⟩ : ∃ kd, kd = (IntKind.u64.wrap (H k).o.d).tmod 8 := ⟨_, rfl⟩
      have HKD : Hd (kO (H k).o = kd) := ⟨hkd.symm⟩
      have hR : 0 ≤ kd ∧ kd < 8 := by rw [hkd]; exact R
      rw [← hkd]
      clear hkd R
      have HIJ := Hd.mk (And.intro hI.out.rng hI.out.kp)
      have WA : Hd (∀ Y, Below w6.heap.size w6 Y → Calls Try.prog 17 #[.agg (stB y (.slice a5 n5 c5) (.slice ar5 m5 cr5))] Y fun e w' => e = .returned (.int .i64 (wnA y)) ∧ Below Y.heap.size Y w') := ⟨fun Y B => by
        rw [HL5.out.1, HL5.out.2]
        exact wants_ok y a5 c5 ar5 cr5 Y (H6.out.2.2.2.1.read (Kept.of_below B _)) HP.out.1.few (H6.out.2.2.2.2.1.read (Kept.of_below B _)) (by have := HP.out.1.run; omega)⟩
      have WS : Hd (∀ Y, Below w6.heap.size w6 Y → Calls Try.prog 17 #[.agg (stB s (.slice ax n0 cx) (.slice ar m0 cr))] Y fun e w' => e = .returned (.int .i64 (wnA s)) ∧ Below Y.heap.size Y w') := ⟨fun Y B => by
        rw [HL.out.1, HL.out.2]
        exact wants_ok s ax cx ar cr Y (H6.out.2.2.2.2.2.1.read (Kept.of_below B _)) hI.out.ho.iv.few (H6.out.2.2.2.2.2.2.read (Kept.of_below B _)) (by have := hI.out.ho.iv.run; omega)⟩
      go_cut [6, 7] from 20 to 123 (fun s6 s7 wx => s6 = .int .i64 (inN s (H k).o y i) ∧ s7 = .int .i64 (outN (H k).o l6 j) ∧ Below w6.heap.size w6 wx)
      case first =>
        have hij : i ≤ 100 ∧ 0 ≤ j ∧ j ≤ i ∧ 0 ≤ i := by
          obtain ⟨⟨h1, h2⟩, nn, -, h3⟩ := HIJ.out
          omega
        have hk8 : kd = 0 ∨ kd = 1 ∨ kd = 2 ∨ kd = 3 ∨ kd = 4 ∨ kd = 5 ∨ kd = 6 ∨ kd = 7 := by omega
        rcases hk8 with rfl | rfl | rfl | rfl | rfl | rfl | rfl | rfl
        · skip
          go_upto_region 14 with fail
          have B0 : Below w6.heap.size w6 w6.drew := (Below.refl _ _).drew
          refine AnyG.start (T := fun Y => Below w6.heap.size w6 Y) (U := fun _ => True) (j0 := 100) (by kernel_rfl) ?_
          generalize w6.drew = v0 at *
          refine .tq (v := .agg (stB y (.slice a5 n5 c5) (.slice ar5 m5 cr5))) 0 51 B0 ?_ (hy := fun w hSw => exec_loadSt _ rfl q rfl _ (H6.out.2.2.1.kept (Kept.of_below hSw (fun _ => False)) id) rfl); simp only [oqA, oqB, oqC]
          refine .tq (v := .agg (stB s (.slice ax n0 cx) (.slice ar m0 cr))) 2 53 B0 ?_ (hy := fun w hSw => exec_loadSt _ rfl g rfl _ (H6.out.2.1.kept (Kept.of_below hSw (fun _ => False)) id) rfl); simp only [oqA, oqB, oqC]
          refine AnyG.ready (rs := [1]) (by kernel_rfl) (by simp) ?_
          refine AllG.cons rfl (fun K hK => ?_) (AllG.nil)
          go_simp
          refine (WA.out v0 B0).mono ?_
          rintro e v1 ⟨rfl, b1⟩
          have B1 := B0.trans (b1.mono B0.size)
          refine hK.out _ _ ⟨B1, fun _ => trivial⟩ ?_
          clear hK K b1 B0
          refine AnyG.ready (rs := [3]) (by kernel_rfl) (by simp) ?_
          refine AllG.cons rfl (fun K hK => ?_) (AllG.nil)
          go_simp
          refine (WS.out v1 B1).mono ?_
          rintro e v2 ⟨rfl, b2⟩
          have B2 := B1.trans (b2.mono B1.size)
          refine hK.out _ _ ⟨B2, fun _ => trivial⟩ ?_
          clear hK K b2 B1
          by_cases hw : wnA s < wnA y
          · have hd : decide (wnA s < wnA y) = true := decide_eq_true hw
            have HE : Hd (inN s (H k).o y i = i + 1 ∧ outN (H k).o l6 j = j ∧ Below w6.heap.size w6 v2) := ⟨if_pos ⟨by rw [HKD.out]; decide, hw⟩, outN_zero (by rw [HKD.out]; decide) _ _, B2⟩
            refine .tq (v := .bool true) 4 55 B2 ?_ (hy := fun w hSw => by go_simp); simp only [oqA, oqB, oqC]
            refine AnyG.done (by kernel_rfl) ?_ _
            clear B2
            go_wp2_with fail
            go_meet
            exact ⟨by rw [HE.out.1], by rw [HE.out.2.1], HE.out.2.2⟩
          · have hd : decide (wnA s < wnA y) = false := decide_eq_false hw
            have HE : Hd (inN s (H k).o y i = i ∧ outN (H k).o l6 j = j ∧ Below w6.heap.size w6 v2) := ⟨if_neg (fun e => hw e.2), outN_zero (by rw [HKD.out]; decide) _ _, B2⟩
            refine .tq (v := .bool false) 4 55 B2 ?_ (hy := fun w hSw => by go_simp); simp only [oqA, oqB, oqC]
            refine AnyG.done (by kernel_rfl) ?_ _
            clear B2
            go_wp2_with fail
            go_meet
            exact ⟨by rw [HE.out.1], by rw [HE.out.2.1], HE.out.2.2⟩
        · skip
          go_upto_region 14 with fail
          have B0 : Below w6.heap.size w6 w6.drew := (Below.refl _ _).drew
          refine AnyG.start (T := fun Y => Below w6.heap.size w6 Y) (U := fun _ => True) (j0 := 100) (by kernel_rfl) ?_
          generalize w6.drew = v0 at *
          refine .tq (v := .agg (stB y (.slice a5 n5 c5) (.slice ar5 m5 cr5))) 0 51 B0 ?_ (hy := fun w hSw => exec_loadSt _ rfl q rfl _ (H6.out.2.2.1.kept (Kept.of_below hSw (fun _ => False)) id) rfl); simp only [oqA, oqB, oqC]
          refine .tq (v := .agg (stB s (.slice ax n0 cx) (.slice ar m0 cr))) 2 53 B0 ?_ (hy := fun w hSw => exec_loadSt _ rfl g rfl _ (H6.out.2.1.kept (Kept.of_below hSw (fun _ => False)) id) rfl); simp only [oqA, oqB, oqC]
          refine AnyG.ready (rs := [1]) (by kernel_rfl) (by simp) ?_
          refine AllG.cons rfl (fun K hK => ?_) (AllG.nil)
          go_simp
          refine (WA.out v0 B0).mono ?_
          rintro e v1 ⟨rfl, b1⟩
          have B1 := B0.trans (b1.mono B0.size)
          refine hK.out _ _ ⟨B1, fun _ => trivial⟩ ?_
          clear hK K b1 B0
          refine AnyG.ready (rs := [3]) (by kernel_rfl) (by simp) ?_
          refine AllG.cons rfl (fun K hK => ?_) (AllG.nil)
          go_simp
          refine (WS.out v1 B1).mono ?_
          rintro e v2 ⟨rfl, b2⟩
          have B2 := B1.trans (b2.mono B1.size)
          refine hK.out _ _ ⟨B2, fun _ => trivial⟩ ?_
          clear hK K b2 B1
          by_cases hw : wnA s < wnA y
          · have hd : decide (wnA s < wnA y) = true := decide_eq_true hw
            have HE : Hd (inN s (H k).o y i = i + 1 ∧ outN (H k).o l6 j = j ∧ Below w6.heap.size w6 v2) := ⟨if_pos ⟨by rw [HKD.out]; decide, hw⟩, outN_zero (by rw [HKD.out]; decide) _ _, B2⟩
            refine .tq (v := .bool true) 4 55 B2 ?_ (hy := fun w hSw => by go_simp); simp only [oqA, oqB, oqC]
            refine AnyG.done (by kernel_rfl) ?_ _
            clear B2
            go_wp2_with fail
            go_meet
            exact ⟨by rw [HE.out.1], by rw [HE.out.2.1], HE.out.2.2⟩
          · have hd : decide (wnA s < wnA y) = false := decide_eq_false hw
            have HE : Hd (inN s (H k).o y i = i ∧ outN (H k).o l6 j = j ∧ Below w6.heap.size w6 v2) := ⟨if_neg (fun e => hw e.2), outN_zero (by rw [HKD.out]; decide) _ _, B2⟩
            refine .tq (v := .bool false) 4 55 B2 ?_ (hy := fun w hSw => by go_simp); simp only [oqA, oqB, oqC]
            refine AnyG.done (by kernel_rfl) ?_ _
            clear B2
            go_wp2_with fail
            go_meet
            exact ⟨by rw [HE.out.1], by rw [HE.out.2.1], HE.out.2.2⟩
        · skip
          have HE : Hd (inN s (H k).o y i = i ∧ outN (H k).o l6 j = j ∧ Below w6.heap.size w6 w6) := ⟨inN_same (by rw [HKD.out]; decide) _ _, outN_zero (by rw [HKD.out]; decide) _ _, Below.refl _ _⟩
          go_wp2_with fail
          go_meet
          exact ⟨by rw [HE.out.1], by rw [HE.out.2.1], HE.out.2.2⟩
        · skip
          have HE : Hd (inN s (H k).o y i = i ∧ outN (H k).o l6 j = j + (l6 : Int) ∧ Below w6.heap.size w6 w6) := ⟨inN_same (by rw [HKD.out]; decide) _ _, if_pos (by rw [HKD.out]; decide), Below.refl _ _⟩
          have hl6 : (l6 : Int) ≤ 100 := by
            obtain ⟨-, n', -, h2⟩ := HP.out
            rw [HE.out.1, HE.out.2.1] at h2
            omega
          go_wp2_with fail
          go_meet
          exact ⟨by rw [HE.out.1], by rw [HE.out.2.1], HE.out.2.2⟩
        · skip
          have HE : Hd (inN s (H k).o y i = i ∧ outN (H k).o l6 j = j + (l6 : Int) ∧ Below w6.heap.size w6 w6) := ⟨inN_same (by rw [HKD.out]; decide) _ _, if_pos (by rw [HKD.out]; decide), Below.refl _ _⟩
          have hl6 : (l6 : Int) ≤ 100 := by
            obtain ⟨-, n', -, h2⟩ := HP.out
            rw [HE.out.1, HE.out.2.1] at h2
            omega
          go_wp2_with fail
          go_meet
          exact ⟨by rw [HE.out.1], by rw [HE.out.2.1], HE.out.2.2⟩
        · skip
          have HE : Hd (inN s (H k).o y i = i ∧ outN (H k).o l6 j = j + (l6 : Int) ∧ Below w6.heap.size w6 w6) := ⟨inN_same (by rw [HKD.out]; decide) _ _, if_pos (by rw [HKD.out]; decide), Below.refl _ _⟩
          have hl6 : (l6 : Int) ≤ 100 := by
            obtain ⟨-, n', -, h2⟩ := HP.out
            rw [HE.out.1, HE.out.2.1] at h2
            omega
          go_wp2_with fail
          go_meet
          exact ⟨by rw [HE.out.1], by rw [HE.out.2.1], HE.out.2.2⟩
        · skip
          have HE : Hd (inN s (H k).o y i = i ∧ outN (H k).o l6 j = j ∧ Below w6.heap.size w6 w6) := ⟨inN_same (by rw [HKD.out]; decide) _ _, outN_zero (by rw [HKD.out]; decide) _ _, Below.refl _ _⟩
          go_wp2_with fail
          go_meet
          exact ⟨by rw [HE.out.1], by rw [HE.out.2.1], HE.out.2.2⟩
        · skip
          have HE : Hd (inN s (H k).o y i = i ∧ outN (H k).o l6 j = j ∧ Below w6.heap.size w6 w6) := ⟨inN_same (by rw [HKD.out]; decide) _ _, outN_zero (by rw [HKD.out]; decide) _ _, Below.refl _ _⟩
          go_wp2_with fail
          go_meet
          exact ⟨by rw [HE.out.1], by rw [HE.out.2.1], HE.out.2.2⟩
      case rest =>
        obtain ⟨rfl, rfl, b8⟩ := hcut
        generalize wc = wd at *
        obtain ⟨i2, hi2⟩ : ∃ i2, i2 = inN s (H k).o y i := ⟨_, rfl⟩
        obtain ⟨j2, hj2⟩ : ∃ j2, j2 = outN (H k).o l6 j := ⟨_, rfl⟩
        have HK2 : Hd ((∃ n', Kp y n' (1000 + ((k + 1 : Nat) : Int)) ∧ i2 - j2 = (n' : Int)) ∧ (0 ≤ j2 ∧ i2 ≤ ((k + 1 : Nat) : Int)) ∧ (allT y).length ≤ 101) := by
          obtain ⟨⟨h1, h2⟩, -⟩ := HIJ.out
          refine ⟨by rw [hi2, hj2]; exact HP.out.2, ⟨?_, ?_⟩, by have := HP.out.1.cnt; omega⟩
          · rw [hj2]; unfold outN; split <;> omega
          · rw [hi2]; unfold inN; split <;> omega
        rw [← hi2, ← hj2]
        have P8 := H6.out.2.2.1.kept (Kept.of_below b8 (fun _ => False)) id
        have G8 := H6.out.2.1.kept (Kept.of_below b8 (fun _ => False)) id
        have H8 := Hd.mk (And.intro b8 (And.intro P8 G8))
        clear WA WS b8 P8 G8 hi2 hj2 HIJ hR HKD
        go_upto_region 21 with (first | (refine wpl_loadSt rfl _ rfl q rfl _ H8.out.2.1 rfl ?_) | (refine wpl_storeSt rfl _ _ rfl g rfl (stB y (.slice a5 n5 c5) (.slice ar5 m5 cr5)) _ rfl H8.out.2.2 rfl rfl (st_one _ _ _ _ _ _ _) ?_; intro w10 n10 k10))
        have HR : Hd (∀ W, Below w10.heap.size w10 W → HoI w g (k + 1) y W ∧ Blk W g 36 (stB y (.slice a5 n5 c5) (.slice ar5 m5 cr5)) ∧ LsR W a5 c5 y.x.F ∧ SlR W ar5 cr5 y.run) := ⟨fun W B => by
          have h1 := hI.out.ho.bel
          have h2 := H6.out.1
          have h3 := H8.out.1
          have lg := hI.out.ho.lg
          have z1 := h1.size
          have z2 := h2.size
          have z3 := h3.size
          have z4 := k10.size
          have bel : Below w.heap.size w W := (((h1.trans (h2.mono z1)).trans (h3.mono (by omega))).trans (k10.below (by omega) (fun j e => by omega))).trans (B.mono (by omega))
          have kk : Kept (fun j => j = g ∨ j = q) w6 W := ((Kept.of_below h3 _).trans (k10.mono (fun j _ e => .inl e))).trans (Kept.of_below B _)
          have bb := n10.kept (Kept.of_below B (fun _ => False)) id
          refine ⟨⟨bel, lg, ⟨a5, c5, ar5, cr5, ?_, H6.out.2.2.2.1.stp kk (fun j _ e => .inl e), H6.out.2.2.2.2.1.step kk (fun j _ e => .inl e)⟩, HP.out.1⟩, bb, H6.out.2.2.2.1.read kk, H6.out.2.2.2.2.1.read kk⟩
          rw [← HL5.out.1, ← HL5.out.2]
          exact bb⟩
        clear k10 n10 H8 H6 HX hI
        have g22 := (HR.out w10 (Below.refl _ _)).2.1.str.1
        have HM5 : Hd (y.run.length = m5 ∧ m5 ≤ 101) := ⟨HL5.out.2.symm, by rw [HL5.out.2]; have := HK2.out.2.2; rw [allT_len] at this; omega⟩
        go_upto_region 23 with (at_builtin; refine wpl_tks rfl _ _ rfl w10.heap.size _ [] y.run rfl (World.ownsRow_nil _ _ _ _) ar5 m5 cr5 HM5.out.1 rfl (HR.out w10 (Below.refl _ _)).2.2.2 (by have := HM5.out; simp; omega) (Nat.le_refl _) ?_; intro v11 w11 o11 g11)
        have HA11 : Hd (OwnT w11 w10.heap.size v11 (y.run ++ flt (y.x.F.take 0)) ∧ Below w10.heap.size w10 w11) := ⟨by
          rw [List.nil_append] at o11
          show OwnT w11 _ v11 (y.run ++ flt [])
          have e : y.run ++ flt [] = y.run := List.append_nil _
          rw [e]
          exact o11, (Below.refl _ _).grown g11 (Nat.le_refl _) (fun j e => by cases e)⟩
        clear o11 g11 g22
        go_wp2_with fail
        go_loopw [12, 13] (fun va vr W => ∃ r : Nat, r ≤ n5 ∧ vr = .int .i64 r ∧ Hd (OwnT W w10.heap.size va (y.run ++ flt (y.x.F.take r)) ∧ Below w10.heap.size w10 W)) (fun _ vr _ => n5 - (intOf vr).toNat)
        case atStart => exact ⟨0, Nat.zero_le _, rfl, HA11⟩
        case round =>
          obtain ⟨r, hr, rfl, hA⟩ := hrel
          clear HA11
          have hls : (y.run ++ flt (y.x.F.take r)).length ≤ 101 := by
            have h1 := HK2.out.2.2
            have e := congrArg List.length (congrArg flt (List.take_append_drop r y.x.F))
            rw [flt_app, List.length_append] at e
            rw [allT_len] at h1
            rw [List.length_append]
            omega
          obtain ⟨a12, c12, rfl, sl12⟩ := hA.out.1.read
          have g21 : _ = some (Value.slice a5 n5 c5) := (HR.out _ hA.out.2).2.1.stx.1.2.2.2.2
          have hn5b : n5 ≤ 200 := by rw [HL5.out.1]; exact HP.out.1.few.len
          by_cases hlt2 : r < n5
          · obtain ⟨b1, o1, a1, c1, rfl, hb1, d0, d1, s1⟩ := (HR.out _ hA.out.2).2.2.1.at (k := r) (by rw [← HL5.out.1]; exact hlt2)
            have i2' : (r : Int) < (n5 : Int) := by omega
            obtain ⟨l1, hl1⟩ : ∃ l1, (gl y.x.F r).L.length = l1 := ⟨_, rfl⟩
            have HL1 := Hd.mk hl1
            have hl1b : l1 ≤ 101 := by
              rw [← hl1]
              have := HP.out.1.at r
              omega
            rw [hl1] at d1
            have HS1 := Hd.mk (And.intro s1 hl1b)
            obtain ⟨lA, hlA⟩ : ∃ lA, lA = (y.run ++ flt (y.x.F.take r)).length := ⟨_, rfl⟩
            rw [← hlA] at hA ⊢
            have HLA : Hd ((y.run ++ flt (y.x.F.take r)).length ≤ 101) := ⟨hls⟩
            have HZ6 := Hd.mk hA.out.2.size
            clear hl1 s1 hl1b sl12 hls hlA d0
            go_wp2_with (at_builtin; refine wpl_tks rfl _ _ rfl w10.heap.size _ (y.run ++ flt (y.x.F.take r)) (gl y.x.F r).L rfl hA.out.1 a1 l1 c1 HL1.out rfl HS1.out.1 (by have := HLA.out; have := HL1.out; have := HS1.out.2; omega) HZ6.out ?_; intro v13 w13 o13 g13)
            go_roundw
            case rel => exact ⟨r + 1, by omega, by go_num, ⟨by rw [flt_take_succ (by rw [← HL5.out.1]; exact hlt2), ← List.append_assoc]; exact o13, hA.out.2.grown g13 HZ6.out (fun j e => (hA.out.1.lt j e).1)⟩⟩
            case measure => simp [intOf]; omega
          · have hrn : r = n5 := by omega
            have eall : y.run ++ flt (y.x.F.take r) = allT y := by
              rw [hrn, HL5.out.1, List.take_length]
              rfl
            rw [eall] at sl12 hls ⊢
            obtain ⟨lA, hlA⟩ : ∃ lA, lA = (allT y).length := ⟨_, rfl⟩
            have HLA := Hd.mk hlA
            rw [← hlA] at hls ⊢
            clear hlA eall
            generalize wr = u0 at *
            have HU := Hd.mk (And.intro sl12 (fun (W : World) (B : Below u0.heap.size u0 W) => hA.out.2.trans (B.mono hA.out.2.size)))
            have hlb : lA ≤ 101 := hls
            have hlr : ¬ (r : Int) < (n5 : Int) := by omega
            clear sl12 hls hA
            go_wp2_with fail
            clear g21
            go_loopw [14] (fun v14 W => ∃ r3 : Nat, r3 ≤ lA ∧ v14 = .int .i64 r3 ∧ Hd (Below u0.heap.size u0 W)) (fun v14 _ => lA - (intOf v14).toNat)
            case atStart => exact ⟨0, Nat.zero_le _, rfl, ⟨Below.refl _ _⟩⟩
            case round =>
              obtain ⟨r3, hr3, rfl, HB3⟩ := hrel
              by_cases h3 : r3 < lA
              · obtain ⟨b3, o3, rfl, -⟩ := HU.out.1.2.2.at (k := r3) (by rw [← HLA.out]; exact h3)
                have HC : Hd (∀ W, Below u0.heap.size u0 W → ∀ x, x < lA → W.cell? ⟨b3, o3 + x * 5, none⟩ = some (.int .i64 (gt (allT y) x).id)) := ⟨fun W B x hx => by
                  obtain ⟨b', o', e, -, r, -⟩ := (HU.out.1.carry B).2.2.at (k := x) (by rw [← HLA.out]; exact hx)
                  cases e
                  exact r⟩
                have i3 : (r3 : Int) < (lA : Int) := by omega
                go_wp2_with fail
                go_loopw [15] (fun v15 W => ∃ r4 : Nat, r4 ≤ r3 ∧ v15 = .int .i64 r4 ∧ Hd (Below u0.heap.size u0 W)) (fun v15 _ => r3 - (intOf v15).toNat)
                case atStart => exact ⟨0, Nat.zero_le _, rfl, HB3⟩
                case round =>
                  obtain ⟨r4, hr4, rfl, HB4⟩ := hrel
                  clear HB3
                  by_cases h4 : r4 < r3
                  · have i4 : (r4 : Int) < (r3 : Int) := by omega
                    have i5 : (r4 : Int) < (lA : Int) := by omega
                    have HN : Hd (((gt (allT y) r4).id == (gt (allT y) r3).id) = false) := ⟨by
                      obtain ⟨nn, kp, -⟩ := HK2.out.1
                      exact kp.ne (by rw [← HLA.out]; exact h3) h4⟩
                    go_upto_region 33 with fail
                    have B0 : Below u0.heap.size u0 wr.drew := HB4.out.drew
                    refine AnyG.start (T := fun Y => Below u0.heap.size u0 Y) (U := fun _ => True) (j0 := 100) (by kernel_rfl) ?_
                    generalize wr.drew = v0 at *
                    generalize hx4 : (gt (allT y) r4).id = x4 at HN
                    generalize hx3 : (gt (allT y) r3).id = x3 at HN
                    have HC2 : Hd (∀ W, Below u0.heap.size u0 W → W.cell? ⟨b3, o3 + r4 * 5, none⟩ = some (.int .i64 x4) ∧ W.cell? ⟨b3, o3 + r3 * 5, none⟩ = some (.int .i64 x3)) := ⟨fun W B => ⟨by rw [← hx4]; exact HC.out W B r4 (by omega), by rw [← hx3]; exact HC.out W B r3 h3⟩⟩
                    have hne := HN.out
                    clear hx4 hx3
                    refine .tq 0 99 B0 ?_; simp only [oqA, oqB, oqC]
                    refine .tq 1 100 B0 ?_; simp only [oqA, oqB, oqC]
                    refine .tq (v := .pointer (some ⟨b3, o3 + r4 * 5, none⟩)) 2 101 B0 ?_ (hy := fun w hSw => by go_simp); simp only [oqA, oqB, oqC]
                    refine .tq 3 102 B0 ?_; simp only [oqA, oqB, oqC]
                    refine .tq (v := .int .i64 x4) 4 103 B0 ?_ (hy := fun w hSw => by have s := (HC2.out w hSw).1; go_simp); simp only [oqA, oqB, oqC]
                    refine .tq 5 104 B0 ?_; simp only [oqA, oqB, oqC]
                    refine .tq 6 105 B0 ?_; simp only [oqA, oqB, oqC]
                    refine .tq (v := .pointer (some ⟨b3, o3 + r3 * 5, none⟩)) 7 106 B0 ?_ (hy := fun w hSw => by go_simp); simp only [oqA, oqB, oqC]
                    refine .tq 8 107 B0 ?_; simp only [oqA, oqB, oqC]
                    refine .tq (v := .int .i64 x3) 9 108 B0 ?_ (hy := fun w hSw => by have s := (HC2.out w hSw).2; go_simp); simp only [oqA, oqB, oqC]
                    refine .tq (v := .bool false) 10 109 B0 ?_ (hy := fun w hSw => by go_simp); simp only [oqA, oqB, oqC]
                    refine AnyG.done (by kernel_rfl) ?_ _
                    have HB0 := Hd.mk B0
                    clear B0
                    go_wp2_with fail
                    go_roundw
                    case rel => exact ⟨r4 + 1, by omega, by go_num, HB0⟩
                    case measure => simp [intOf]; omega
                  · have h5 : ¬ (r4 : Int) < (r3 : Int) := by omega
                    go_wp2_with fail
                    go_roundw
                    case rel => exact ⟨r3 + 1, by omega, by go_num, HB4⟩
                    case measure => simp [intOf]; omega
              · have h5 : ¬ (r3 : Int) < (lA : Int) := by omega
                have HG : Hd (Blk wr g 36 (stB y (.slice a5 n5 c5) (.slice ar5 m5 cr5))) := ⟨(HR.out _ (HU.out.2 _ HB3.out)).2.1⟩
                have hlen : (lA : Int) = i2 - j2 := by
                  obtain ⟨nn, kp, e⟩ := HK2.out.1
                  have := kp.len
                  have := HLA.out
                  omega
                have hj0 : 0 ≤ j2 := HK2.out.2.1.1
                have hji : j2 ≤ i2 := by omega
                have hi1 : i2 ≤ 101 := by have := HK2.out.2.1.2; omega
                have c1 : ((lA : Int) != i2 - j2) = false := by simp [hlen]
                have EM : Calls Try.prog 18 #[.agg (stB y (.slice a5 n5 c5) (.slice ar5 m5 cr5))] wr fun e w' => e = .returned (.bool (decide (wtA y.x.F = 0 ∧ y.run = []))) ∧ Below wr.heap.size wr w' := by
                  rw [HL5.out.1, HL5.out.2]
                  exact empty_ok y a5 c5 ar5 cr5 wr (HR.out _ (HU.out.2 _ HB3.out)).2.2.1 HP.out.1.few (by have := HP.out.1.run; omega)
                have he := empty_iff y
                by_cases hz : i2 = j2
                · have e0 : decide (wtA y.x.F = 0 ∧ y.run = []) = true := decide_eq_true (he.2 (by have := HLA.out; omega))
                  rw [e0] at EM
                  have c2 : (i2 == j2) = true := by simpa using hz
                  have HZ := Hd.mk hz
                  clear hz hlen e0 he
                  go_wp2_with (first | (refine wpl_loadSt_g rfl _ rfl g rfl _ HG.out rfl ?_) | (go_at_call 18; refine EM.mono ?_; rintro e w40 ⟨rfl, b40⟩; have HB40 := Hd.mk (HB3.out.trans (b40.mono HB3.out.size)); clear b40))
                  go_roundw
                  case rel => exact ⟨k + 1, y, i2, j2, by omega, by omega, rfl, rfl, by go_num, ⟨⟨(HR.out _ (HU.out.2 _ HB40.out)).1, HK2.out.1, HK2.out.2.1⟩⟩⟩
                  case measure => simp [intOf]; omega
                · have e0 : decide (wtA y.x.F = 0 ∧ y.run = []) = false := decide_eq_false (fun h => hz (by have := he.1 h; have := HLA.out; omega))
                  rw [e0] at EM
                  have c2 : (i2 == j2) = false := by simpa using hz
                  clear hz hlen e0 he
                  go_wp2_with (first | (refine wpl_loadSt_g rfl _ rfl g rfl _ HG.out rfl ?_) | (go_at_call 18; refine EM.mono ?_; rintro e w40 ⟨rfl, b40⟩; have HB40 := Hd.mk (HB3.out.trans (b40.mono HB3.out.size)); clear b40))
                  go_roundw
                  case rel => exact ⟨k + 1, y, i2, j2, by omega, by omega, rfl, rfl, by go_num, ⟨⟨(HR.out _ (HU.out.2 _ HB40.out)).1, HK2.out.1, HK2.out.2.1⟩⟩⟩
                  case measure => simp [intOf]; omega
    · have HE := Hd.mk hI.out.ho.bel
      clear hI
      by_cases hlt : k < n
      · obtain rfl : k = 100 := by omega
        go_wp2
        go_ret
        exact ⟨rfl, HE.out⟩
      · have hge : n ≤ k := by omega
        go_wp2
        go_ret
        exact ⟨rfl, HE.out⟩
end Go.Proofs.Ytlgibnmoogbdcaa
