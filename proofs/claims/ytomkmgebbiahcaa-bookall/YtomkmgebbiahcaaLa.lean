/-
  The walk of 'BookAll'. Condition: the book lies in memory.
-/
import Derived.Test.YtomkmgebbiahcaaAw
import Derived.Test.YtomkmgebbiahcaaBx
namespace Go.Proofs.Ytomkmgebbiahcaa
open Go.RowKit

def eM : En := ⟨-77, 0, ⟨#[]⟩⟩
/-- A book and a mark behind it. -/
structure Mine (W : World) (g n c : Nat) (L : List En) : Prop where
  sl : SlE W (some ⟨g, 0, none⟩) c L
  at_ : W.cell? ⟨g, n * 3, none⟩ = some (.int .i64 (-77))
theorem Mine.carry {W W' : World} {g n c : Nat} {L : List En} (h : Mine W g n c L) (b : Below W.heap.size W W') (hg : g < W.heap.size) : Mine W' g n c L :=
  ⟨h.sl.carry b, (b.cell (p := ⟨g, n * 3, none⟩) hg).trans h.at_⟩
theorem OwE.mine {W : World} {B : Nat} {v : Value} {L : List En} (h : OwE W B v (L ++ [eM])) : ∃ g c, v = .slice (some ⟨g, 0, none⟩) (L.length + 1) c ∧ g < W.heap.size ∧ L.length + 1 ≤ c ∧ Mine W g L.length c L := by
  rcases id h.2 with ⟨-, e⟩ | ⟨g, cap, cur, rfl, hb, hg, hc, r⟩
  · simp at e
  · have hl : (L ++ [eM]).length = L.length + 1 := by simp
    have hlt := (h.lt g rfl).2
    have hcell : ∀ j u, (enCs (L ++ [eM]))[j]? = some u → W.cell? ⟨g, j, none⟩ = some u := fun j u hj => by
      have := h.cells rfl j u hj
      rw [Go.WideShapes.add_plain, Nat.zero_add] at this
      exact this
    have R : EnR W (some ⟨g, 0, none⟩) (L ++ [eM]) := fun _ => ⟨g, 0, rfl, hlt, fun j u hj => by rw [Nat.zero_add]; exact hcell j u hj⟩
    rw [hl] at hc
    refine ⟨g, cap, by rw [hl], hlt, hc, ⟨⟨by omega, (fun e => by cases e), R.take⟩, ?_⟩⟩
    refine hcell _ _ ?_
    have := enCs_at (L ++ [eM]) L.length (by omega) 0 (by decide)
    rw [Nat.add_zero] at this
    rw [this, ge_append_len]
    rfl

set_option maxRecDepth 20000 in
set_option maxHeartbeats 4000000 in
theorem all_law (a : Option Addr) (c : Nat) (L : List En) (x : En) (d p : Int) (w : World) (h : SlE w a c L) :
    Calls Try.prog 3 #[.slice a L.length c, .agg #[.int .i64 x.id, .int .i64 x.ph, .string x.lv], .int .i64 d, .int .i64 p] w fun e w' => e = .returned (.bool true) ∧ Below w.heap.size w w' := by
  obtain ⟨w1, hw1⟩ : ∃ w1, w1 = w.alloc (.cells #[.int .i64 x.id, .int .i64 x.ph, .string x.lv] 24) := ⟨_, rfl⟩
  have B1 : Below w.heap.size w w1 := by rw [hw1]; exact alloc_below _ _
  have N1 : Blk w1 w.heap.size 24 (enA x) := by rw [hw1]; exact Blk.new _ _ _
  have I := awake_ok w1
  have H : Hd (∀ W, Below w1.heap.size w1 W → SlE W a c L ∧ Blk W w.heap.size 24 (enA x) ∧ Below w.heap.size w W) := ⟨fun W b => ⟨(h.carry B1).carry b, N1.kept (Kept.of_below b (fun _ => False)) id, B1.trans (b.mono B1.size)⟩⟩
  clear h B1 N1
  by_cases t1 : (1000 : Int) < (L.length : Int)
  · generalize L.length = n at *
    go_enter Try.func3, Try.ntmps3
    go_upto_region 1 with fail
    rw [← hw1]
    clear hw1
    go_wp2_with (go_at_call 6; refine I.mono ?_; rintro e w3 ⟨rfl, b3⟩)
    go_ret
    exact ⟨rfl, (H.out _ b3).2.2⟩
  have hl : L.length ≤ 1000 := by omega
  obtain ⟨n, hn⟩ : ∃ n, n = L.length := ⟨_, rfl⟩
  have HN : Hd (L.length = n) := ⟨hn.symm⟩
  have CBs : Hd (∀ W s q, SlE W s q L → (Calls Try.prog 7 #[.slice s n q, .agg #[.int .i64 x.id, .int .i64 x.ph, .string x.lv]] W fun e w' => Ans W w' e (bgL x L) (bgE x L)) ∧ (Calls Try.prog 8 #[.slice s n q, .agg #[.int .i64 x.id, .int .i64 x.ph, .string x.lv]] W fun e w' => Ans W w' e (bgL x L) (bgE x L))
      ∧ (Calls Try.prog 10 #[.slice s n q, .int .i64 d, .int .i64 p] W fun e w' => Ans W w' e (mvL d p L) (mvE d p L)) ∧ (Calls Try.prog 11 #[.slice s n q, .int .i64 d, .int .i64 p] W fun e w' => Ans W w' e (mvL d p L) (mvE d p L))
      ∧ (Calls Try.prog 12 #[.slice s n q, .int .i64 d] W fun e w' => e = .returned (fdV d L) ∧ Below W.heap.size W w') ∧ (Calls Try.prog 13 #[.slice s n q, .int .i64 d] W fun e w' => e = .returned (fdV d L) ∧ Below W.heap.size W w')
      ∧ (Calls Try.prog 14 #[.slice s n q] W fun e w' => e = .returned (.tuple #[.int .i64 (cnt L 1 L.length), .int .i64 (cnt L 2 L.length), .int .i64 (cnt L 3 L.length)]) ∧ Below W.heap.size W w')
      ∧ (∀ p, Calls Try.prog 15 #[.slice s n q, .int .i64 p] W fun e w' => e = .returned (.int .i64 (cnt L p L.length)) ∧ w' = W)) := ⟨fun W s q r => by
    rw [hn]
    exact ⟨begin_ok s q L x W r (by omega), rbegin_ok s q L x W r (by omega), move_ok s q L d p W r (by omega), rmove_ok s q L d p W r.2.2 (by omega), find_ok s q L d W r.2.2 (by omega), rfind_ok s q L d W r.2.2 (by omega), count_ok s q L W r.2.2 (by omega), fun p => rcount_ok s q L p W r.2.2 (by omega)⟩⟩
  have SM : Hd (∀ W s t q r u v (M : List En), M.length ≤ 2000 → M.length = u → M.length = v → SlE W s q M → SlE W t r M → Calls Try.prog 9 #[.slice s u q, .slice t v r] W fun e w' => e = .returned (.bool true) ∧ Below W.heap.size W w') := ⟨fun W s t q r u v M hM e1 e2 h1 h2 => by
    subst e1; rw [← e2]; exact same_ok s t q r M W h1.2.2 h2.2.2 hM⟩
  have LN : Hd ((bgL x L).length ≤ 2000 ∧ (mvL d p L).length ≤ 2000) := ⟨by unfold bgL; split <;> simp; omega, by unfold mvL; split <;> simp; omega⟩
  generalize bgL x L = M1 at *
  generalize bgE x L = E1 at *
  generalize mvL d p L = M2 at *
  generalize mvE d p L = E2 at *
  unfold fdV enV at CBs
  generalize fE d L = y at *
  generalize fB d L = yb at *
  generalize cnt L = f at *
  obtain ⟨y0, y1, y2⟩ := y
  obtain ⟨x0, x1, x2⟩ := x
  simp only [enA] at *
  rw [← hn] at t1 hl ⊢
  clear hn
  go_enter Try.func3, Try.ntmps3
  go_upto_region 1 with fail
  rw [← hw1]
  clear hw1
  generalize hG : w.heap.size = g0 at *
  have HG : Hd (w.heap.size = g0) := ⟨hG⟩
  clear hG
  go_upto_region 5 with (go_at_call 6; refine I.mono ?_; rintro e w3 ⟨rfl, b3⟩)
  obtain ⟨z1, z2, z3⟩ := H.out w3 b3
  have S1 : Hd (Below w1.heap.size w1 w3 ∧ SlE w3 a c L) := ⟨b3, z1⟩
  have OA : Hd (OwE (w3.alloc (.cells #[] 24)) w3.heap.size (.slice (some ⟨w3.heap.size, 0, none⟩) 0 0) []) := ⟨OwE.lit w3 _ (Nat.le_refl _)⟩
  have SA : Hd (SlE (w3.alloc (.cells #[] 24)) a c L) := ⟨z1.carry (alloc_below _ _)⟩
  have BA : Hd (Below w3.heap.size w3 (w3.alloc (.cells #[] 24))) := ⟨alloc_below _ _⟩
  clear z1 z2 z3 b3 I
  go_wp2_with (at_builtin; first
    | (refine wpl_ens rfl _ _ rfl w3.heap.size _ [] L rfl OA.out a n c HN.out rfl SA.out (by have := HN.out; simp; omega) BA.out.size ?_
       intro v4 w4 o4 g4
       have B4 : Hd (Below w3.heap.size w3 w4) := ⟨OA.out.below BA.out BA.out.size g4⟩
       have OB : Hd (OwE (w4.alloc (.cells #[.int .i64 (-77), .int .i64 0, .string ⟨#[]⟩] 24)) w3.heap.size v4 L) := ⟨World.ownsRow.alloc o4 _⟩
       have SB : Hd (SlE (w4.alloc (.cells #[.int .i64 (-77), .int .i64 0, .string ⟨#[]⟩] 24)) (some ⟨w4.heap.size, 0, none⟩) 1 [eM]) := ⟨one_listE (t := eM) (Blk.new w4 24 #[.int .i64 (-77), .int .i64 0, .string ⟨#[]⟩])⟩
       have BB : Hd (Below w3.heap.size w3 (w4.alloc (.cells #[.int .i64 (-77), .int .i64 0, .string ⟨#[]⟩] 24))) := ⟨B4.out.alloc B4.out.size _⟩
       clear o4 g4 OA SA BA B4)
    | (refine wpl_ens rfl _ _ rfl w3.heap.size _ L [eM] rfl OB.out (some ⟨w4.heap.size, 0, none⟩) 1 1 rfl rfl SB.out (by have := HN.out; simp only [List.length_singleton]; omega) BB.out.size ?_
       intro v5 w5 o5 g5
       have B5 : Hd (Below w3.heap.size w3 w5) := ⟨OB.out.below BB.out BB.out.size g5⟩
       obtain ⟨gm, cm, e5, hgm, hcm, mine⟩ := o5.mine
       rw [HN.out] at e5 hcm mine
       subst e5
       have MM : Hd (Mine w5 gm n cm L ∧ gm < w5.heap.size) := ⟨mine, hgm⟩
       clear o5 g5 OB SB BB mine hgm))
  have H5 : Hd (∀ W, Below w5.heap.size w5 W → Mine W gm n cm L ∧ SlE W a c L ∧ Blk W g0 24 #[.int .i64 x0, .int .i64 x1, .string x2] ∧ Below g0 w W) := ⟨fun W b => by
    obtain ⟨y1, y2, y3⟩ := H.out W ((S1.out.1.trans (B5.out.mono S1.out.1.size)).trans (b.mono (Nat.le_trans S1.out.1.size B5.out.size)))
    exact ⟨MM.out.1.carry b MM.out.2, y1, y2, y3⟩⟩
  clear H S1 B5 MM
  -- Begin
  obtain ⟨m1, -, x3, -⟩ := H5.out w5.drew ⟨rfl, rfl, rfl, Nat.le_refl _, fun _ _ => rfl⟩
  have C := (CBs.out w5.drew _ cm m1.sl).1
  have HD : Hd (∀ W, Below w5.drew.heap.size w5.drew W → Below w5.heap.size w5 W) := ⟨fun W b => ⟨b.os, b.tape, b.output, b.size, b.block⟩⟩
  refine AnyG.start (T := fun W => Blk W g0 24 #[.int .i64 x0, .int .i64 x1, .string x2]) (U := fun _ => True) (j0 := 100) (by kernel_rfl) ?_
  have M5 : Hd (Blk w5.drew g0 24 #[.int .i64 x0, .int .i64 x1, .string x2]) := ⟨x3⟩
  clear m1 x3
  generalize w5.drew = w6 at *
  refine .tq 0 33 M5.out ?_; simp only [oqA, oqB, oqC]
  refine .tq 1 34 M5.out ?_; simp only [oqA, oqB, oqC]
  refine .tq 2 35 M5.out ?_; simp only [oqA, oqB, oqC]
  refine .tq 3 36 (v := .slice (some ⟨gm, 0, none⟩) n cm) M5.out ?_ (hy := fun w hSw => by go_simp; intro hh; omega); simp only [oqA, oqB, oqC]
  refine .tq 4 37 M5.out ?_ (hy := fun w hSw => by have s0 := Blk.cellv hSw 0 rfl; have s1 := Blk.cellv hSw 1 rfl; have s2 := Blk.cellv hSw 2 rfl; go_simp; rfl); simp only [oqA, oqB, oqC]
  refine AnyG.ready (rs := [5]) (by kernel_rfl) (by simp) ?_
  refine AllG.cons rfl (fun K hK => ?_) AllG.nil
  go_simp
  refine C.mono ?_
  rintro e w7 ⟨⟨v7, rfl, o7⟩, b7⟩
  have T7 : Blk w7 g0 24 #[.int .i64 x0, .int .i64 x1, .string x2] := M5.out.kept (Kept.of_below b7 (fun _ => False)) id
  refine hK.out _ _ ⟨T7, fun _ => trivial⟩ ?_
  clear hK K C
  refine .tq 6 32 T7 ?_; simp only [oqA, oqB, oqC]
  refine .tq 7 39 T7 ?_; simp only [oqA, oqB, oqC]
  refine .tq 8 40 T7 ?_; simp only [oqA, oqB, oqC]
  refine AnyG.ready (rs := [9]) (by kernel_rfl) (by simp) ?_
  refine AllG.cons rfl (fun K hK => ?_) AllG.nil
  go_simp
  refine hK.out _ _ ⟨T7, fun _ => trivial⟩ ?_
  clear hK K
  refine AnyG.ready (rs := [10]) (by kernel_rfl) (by simp) ?_
  refine AllG.cons rfl (fun K hK => ?_) AllG.nil
  go_simp
  refine hK.out _ _ ⟨T7, fun _ => trivial⟩ ?_
  clear hK K
  refine AnyG.done (by kernel_rfl) ?_ _
  -- what stands in w7
  obtain ⟨a7, c7, rfl, s7⟩ := o7.read
  have H7 : Hd (∀ W, Below w7.heap.size w7 W → (Mine W gm n cm L ∧ SlE W a c L ∧ Blk W g0 24 #[.int .i64 x0, .int .i64 x1, .string x2] ∧ Below g0 w W) ∧ SlE W a7 c7 M1) := ⟨fun W b => ⟨H5.out W (HD.out W (b7.trans (b.mono b7.size))), s7.carry b⟩⟩
  clear o7 b7 s7 H5 HD M5 T7
  obtain ⟨⟨-, y2, y3, -⟩, -⟩ := H7.out w7 (Below.refl _ _)
  have C := (CBs.out w7 a c y2).2.1
  have d0 := y3.cellv (v := .int .i64 x0) 0 rfl
  have d1 := y3.cellv (v := .int .i64 x1) 1 rfl
  have d2 := y3.cellv (v := .string x2) 2 rfl
  clear y2 y3
  go_wp2_with fail
  go_at_call 8
  refine C.mono ?_
  rintro e w8 ⟨⟨v8, rfl, o8⟩, b8⟩
  obtain ⟨a8, c8, rfl, s8⟩ := o8.read
  obtain ⟨h7, z7⟩ := H7.out w8 b8
  have C2 := SM.out w8 a7 a8 c7 c8 M1.length M1.length M1 LN.out.1 rfl rfl z7 s8
  have H8 : Hd (∀ W, Below w8.heap.size w8 W → Mine W gm n cm L ∧ SlE W a c L ∧ Blk W g0 24 #[.int .i64 x0, .int .i64 x1, .string x2] ∧ Below g0 w W) := ⟨fun W b => (H7.out W (b8.trans (b.mono b8.size))).1⟩
  clear C d0 d1 d2 o8 s8 h7 z7 b8 H7
  generalize M1.length = l1 at *
  go_wp2_with (go_at_call 9; refine C2.mono ?_; rintro e w9 ⟨rfl, b9⟩)
  -- Move
  have H9 : Hd (∀ W, Below w9.heap.size w9 W → Mine W gm n cm L ∧ SlE W a c L ∧ Blk W g0 24 #[.int .i64 x0, .int .i64 x1, .string x2] ∧ Below g0 w W) := ⟨fun W b => H8.out W (b9.trans (b.mono b9.size))⟩
  clear C2 H8 b9
  obtain ⟨y1, y2, -, -⟩ := H9.out w9 (Below.refl _ _)
  have C := (CBs.out w9 _ cm y1.sl).2.2.1
  clear y1 y2
  refine C.mono ?_
  rintro e w10 ⟨⟨v10, rfl, o10⟩, b10⟩
  obtain ⟨a10, c10, rfl, s10⟩ := o10.read
  have H10 : Hd (∀ W, Below w10.heap.size w10 W → (Mine W gm n cm L ∧ SlE W a c L ∧ Blk W g0 24 #[.int .i64 x0, .int .i64 x1, .string x2] ∧ Below g0 w W) ∧ SlE W a10 c10 M2) := ⟨fun W b => ⟨H9.out W (b10.trans (b.mono b10.size)), s10.carry b⟩⟩
  clear C o10 s10 b10 H9
  obtain ⟨⟨-, y2, -, -⟩, -⟩ := H10.out w10 (Below.refl _ _)
  have C := (CBs.out w10 a c y2).2.2.2.1
  clear y2
  go_wp2_with fail
  go_at_call 11
  refine C.mono ?_
  rintro e w11 ⟨⟨v11, rfl, o11⟩, b11⟩
  obtain ⟨a11, c11, rfl, s11⟩ := o11.read
  obtain ⟨h7, z7⟩ := H10.out w11 b11
  have C2 := SM.out w11 a10 a11 c10 c11 M2.length M2.length M2 LN.out.2 rfl rfl z7 s11
  have H11 : Hd (∀ W, Below w11.heap.size w11 W → Mine W gm n cm L ∧ SlE W a c L ∧ Blk W g0 24 #[.int .i64 x0, .int .i64 x1, .string x2] ∧ Below g0 w W) := ⟨fun W b => (H10.out W (b11.trans (b.mono b11.size))).1⟩
  clear C o11 s11 h7 z7 b11 H10
  generalize M2.length = l2 at *
  go_wp2_with (go_at_call 9; refine C2.mono ?_; rintro e w12 ⟨rfl, b12⟩)
  -- Find
  have H12 : Hd (∀ W, Below w12.heap.size w12 W → Mine W gm n cm L ∧ SlE W a c L ∧ Blk W g0 24 #[.int .i64 x0, .int .i64 x1, .string x2] ∧ Below g0 w W) := ⟨fun W b => H11.out W (b12.trans (b.mono b12.size))⟩
  clear C2 H11 b12
  obtain ⟨y1, y2, -, -⟩ := H12.out w12 (Below.refl _ _)
  have C := (CBs.out w12 _ cm y1.sl).2.2.2.2.1
  clear y1 y2
  refine C.mono ?_
  rintro e w13 ⟨rfl, b13⟩
  obtain ⟨w14, hw14⟩ : ∃ w14, w14 = w13.alloc (.cells #[.int .i64 y0, .int .i64 y1, .string y2] 24) := ⟨_, rfl⟩
  have q14 : Below w12.heap.size w12 w14 := by rw [hw14]; exact b13.alloc b13.size _
  have N14 : Blk w14 w13.heap.size 24 #[.int .i64 y0, .int .i64 y1, .string y2] := by rw [hw14]; exact Blk.new _ _ _
  have H14 : Hd (∀ W, Below w14.heap.size w14 W → (Mine W gm n cm L ∧ SlE W a c L ∧ Blk W g0 24 #[.int .i64 x0, .int .i64 x1, .string x2] ∧ Below g0 w W) ∧ Blk W w13.heap.size 24 #[.int .i64 y0, .int .i64 y1, .string y2]) := ⟨fun W b => ⟨H12.out W (q14.trans (b.mono q14.size)), N14.kept (Kept.of_below b (fun _ => False)) id⟩⟩
  clear C H12 b13 q14 N14
  go_upto_region 15 with fail
  rw [← hw14]
  clear hw14
  generalize w13.heap.size = g13 at *
  obtain ⟨⟨-, z2, -, -⟩, -⟩ := H14.out w14 (Below.refl _ _)
  have C := (CBs.out w14 a c z2).2.2.2.2.2.1
  clear z2
  go_wp2_with fail
  go_at_call 13
  refine C.mono ?_
  rintro e w15 ⟨rfl, b15⟩
  obtain ⟨w16, hw16⟩ : ∃ w16, w16 = w15.alloc (.cells #[.int .i64 y0, .int .i64 y1, .string y2] 24) := ⟨_, rfl⟩
  have q16 : Below w14.heap.size w14 w16 := by rw [hw16]; exact b15.alloc b15.size _
  have N16 : Blk w16 w15.heap.size 24 #[.int .i64 y0, .int .i64 y1, .string y2] := by rw [hw16]; exact Blk.new _ _ _
  have H16 : Hd (∀ W, Below w16.heap.size w16 W → (Mine W gm n cm L ∧ SlE W a c L ∧ Blk W g0 24 #[.int .i64 x0, .int .i64 x1, .string x2] ∧ Below g0 w W) ∧ Blk W g13 24 #[.int .i64 y0, .int .i64 y1, .string y2] ∧ Blk W w15.heap.size 24 #[.int .i64 y0, .int .i64 y1, .string y2]) := ⟨fun W b => ⟨(H14.out W (q16.trans (b.mono q16.size))).1, (H14.out W (q16.trans (b.mono q16.size))).2, N16.kept (Kept.of_below b (fun _ => False)) id⟩⟩
  clear C H14 b15 q16 N16
  go_upto_region 16 with fail
  rw [← hw16]
  clear hw16
  generalize w15.heap.size = g15 at *
  obtain ⟨⟨-, z2, -, -⟩, -⟩ := H16.out w16 (Below.refl _ _)
  have C := (CBs.out w16 a c z2).2.2.2.2.2.2.1
  rw [HN.out] at C
  clear z2
  go_wp2_with fail
  go_at_call 14
  refine C.mono ?_
  rintro e w17 ⟨rfl, b17⟩
  obtain ⟨⟨z1, z2, -, z4⟩, z5, z6⟩ := H16.out w17 b17
  have R := (CBs.out w17 a c z2).2.2.2.2.2.2.2
  rw [HN.out] at R
  have RR : Hd _ := ⟨R⟩
  obtain ⟨⟨e0, e1, e2⟩, -⟩ := Blk.three (t := ⟨y0, y1, y2⟩) z5
  obtain ⟨⟨f0, f1, f2⟩, -⟩ := Blk.three (t := ⟨y0, y1, y2⟩) z6
  simp only at e0 e1 e2 f0 f1 f2
  have CS := SM.out w17 _ a cm c n n L (by have := HN.out; omega) HN.out HN.out z1.sl z2
  have hat := z1.at_
  have Q : Hd (Mine w17 gm n cm L ∧ Below g0 w w17 ∧ gm < w17.heap.size) := ⟨z1, z4, World.block_lt_of_cell? _ _ hat⟩
  clear C H16 b17 z1 z2 z4 z5 z6 CBs SM LN R
  go_wp2_with (go_at_call 15; refine (RR.out _).mono ?_; rintro e w18 ⟨rfl, rfl⟩)
  refine CS.mono ?_
  rintro e w19 ⟨rfl, b18⟩
  have hat2 := (b18.cell (p := ⟨gm, n * 3, none⟩) Q.out.2.2).trans hat
  have B18 : Hd (Below g0 w w19) := ⟨Q.out.2.1.trans (b18.mono (by have h1 := Q.out.2.1.size; have h2 := HG.out; omega))⟩
  clear b18 hat
  go_wp2_with fail
  go_ret
  exact ⟨rfl, by rw [HG.out]; exact B18.out⟩
end Go.Proofs.Ytomkmgebbiahcaa
