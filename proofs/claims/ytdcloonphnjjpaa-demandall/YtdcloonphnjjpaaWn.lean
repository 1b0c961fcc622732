/-
  What 'Note' and 'Turn' answer, the program's and the reference's. Conditions: numbers fit their type.
-/
import Derived.Test.YtdcloonphnjjpaaWd
namespace Go.Proofs.Ytdcloonphnjjpaa
open Go.RowKit

/-- Two boxes, and what may turn of them. -/
theorem box2 (w : World) (h s : Int) : ∃ w2, w2 = (w.alloc (.cells #[.int .i64 h, .int .i64 s] 23)).alloc (.cells #[.int .i64 0, .int .i64 0] 23) ∧ Below w.heap.size w w2 ∧ Blk w2 w.heap.size 23 (dmA h s) ∧ Blk w2 (w.heap.size + 1) 23 (dmA 0 0) :=
  ⟨_, rfl, boxes w 23 23 _ _⟩
/-- The first one put anew, behind a call. -/
theorem put1 {w w2 w3 : World} {g : Nat} {h s a b : Int} (B : Below w.heap.size w w2) (hg : w.heap.size = g) (N1 : Blk w2 g 23 (dmA h s)) (N2 : Blk w2 (g + 1) 23 (dmA a b)) (b3 : Below w2.heap.size w2 w3) (x y : Int) :
    Below w.heap.size w ((w3.setCell ⟨g, 0, none⟩ (.int .i64 x)).setCell ⟨g, 1, none⟩ (.int .i64 y)) ∧ Blk ((w3.setCell ⟨g, 0, none⟩ (.int .i64 x)).setCell ⟨g, 1, none⟩ (.int .i64 y)) g 23 (dmA x y) ∧ Blk ((w3.setCell ⟨g, 0, none⟩ (.int .i64 x)).setCell ⟨g, 1, none⟩ (.int .i64 y)) (g + 1) 23 (dmA a b) := by
  have k := Kept.of_below b3 (fun _ => False)
  obtain ⟨q1, q2⟩ := dm_set (N1.kept k id) x y
  exact ⟨B.trans ((b3.mono B.size).trans (q2.below (Nat.le_trans B.size b3.size) (fun j e => by rw [e]; omega))), q1, (N2.kept k id).kept q2 (by simp)⟩
/-- The second one put. -/
theorem put2 {w w2 : World} {g : Nat} {a b : Int} (B : Below w.heap.size w w2) (hg : w.heap.size = g) (N2 : Blk w2 (g + 1) 23 (dmA a b)) (x y : Int) :
    Below w.heap.size w ((w2.setCell ⟨g + 1, 0, none⟩ (.int .i64 x)).setCell ⟨g + 1, 1, none⟩ (.int .i64 y)) ∧ Blk ((w2.setCell ⟨g + 1, 0, none⟩ (.int .i64 x)).setCell ⟨g + 1, 1, none⟩ (.int .i64 y)) (g + 1) 23 (dmA x y) := by
  obtain ⟨q1, q2⟩ := dm_set N2 x y
  exact ⟨B.trans (q2.below B.size (fun j e => by rw [e]; omega)), q1⟩

set_option maxRecDepth 20000 in
set_option maxHeartbeats 1000000 in
theorem note_ok (h s n : Int) (w : World) :
    Calls Try.prog 7 #[.agg #[.int .i64 h, .int .i64 s], .int .i64 n] w fun e w' => e = .returned (.agg #[.int .i64 (max (cnt h) (cnt n)), .int .i64 (cnt s)]) ∧ Below w.heap.size w w' := by
  obtain ⟨w2, hw2, B, N1, N2⟩ := box2 w h s
  obtain ⟨g, hg⟩ : ∃ g, w.heap.size = g := ⟨_, rfl⟩
  rw [hg] at N1 N2
  have HB : Hd (Below w.heap.size w w2) := ⟨B⟩
  have HG : Hd (w.heap.size = g) := ⟨hg⟩
  have H1 : Hd (Blk w2 g 23 (dmA h s)) := ⟨N1⟩
  have H2 : Hd (Blk w2 (g + 1) 23 (dmA 0 0)) := ⟨N2⟩
  obtain ⟨⟨c0, c1⟩, f0, f1⟩ := N1.two
  clear B N1 N2
  have CN : Hd (∀ W, Calls Try.prog 12 #[.int .i64 n] W fun e w' => e = .returned (.int .i64 (cnt n)) ∧ w' = W) := ⟨counted_ok n⟩
  have HH := held_ok h s w2
  generalize cnt h = x at *
  generalize cnt s = y at *
  generalize cnt n = z at *
  go_enter Try.func7, Try.ntmps7
  go_upto_region 1 with fail
  rw [← hw2]
  clear hw2 hg
  go_wp2_with fail
  go_at_call 11
  refine HH.mono ?_
  rintro e w3 ⟨rfl, b3⟩
  have K := Kept.of_below b3 (fun _ => False)
  clear c0 c1 f0 f1
  obtain ⟨⟨c0, c1⟩, f0, f1⟩ := (H1.out.kept K id).two
  obtain ⟨P1, P2, P3⟩ := put1 HB.out HG.out H1.out H2.out b3 x y
  clear HH K b3 HB H1 H2
  have PB : Hd (Below _ _ _) := ⟨P1⟩
  have PX : Hd (Blk _ _ _ _) := ⟨P2⟩
  have PY : Hd (Blk _ _ _ _) := ⟨P3⟩
  clear P1 P2 P3
  go_upto_region 2 with fail
  clear c0 c1 f0 f1
  generalize World.setCell _ _ _ = w4 at *
  have PB' : Hd (Below w.heap.size w w4.drew) := ⟨PB.out.drew⟩
  have PX' : Blk w4.drew g 23 (dmA x y) := PX.out
  have PY' : Blk w4.drew (g + 1) 23 (dmA 0 0) := PY.out
  clear PB PX PY
  refine region_tail 8 (by kernel_rfl) ?_
  simp only [List.take_succ_cons, List.take_zero, List.drop_succ_cons, List.drop_zero]
  generalize w4.drew = w5 at *
  obtain ⟨⟨c0, c1⟩, -, -⟩ := PX'.two
  obtain ⟨⟨e0, e1⟩, f0, f1⟩ := PY'.two
  obtain ⟨q1, q2⟩ := put2 PB'.out HG.out PY' (max x z) y
  have Q1 : Hd (Below _ _ _) := ⟨q1⟩
  have Q2 : Hd (Blk _ _ _ _) := ⟨q2⟩
  clear q1 q2 PX' PY' PB'
  still_step
  still_step
  still_step
  still_call (CN.out _)
  still_step
  still_step
  still_step
  still_step
  refine wpStill_nil ?_
  go_wp2_with fail
  refine bodyPost_ret (resNt _ _ _ rfl Q2.out) rfl ?_
  exact ⟨rfl, Q1.out⟩

set_option maxRecDepth 20000 in
set_option maxHeartbeats 1000000 in
theorem turn_ok (h s n : Int) (w : World) :
    Calls Try.prog 9 #[.agg #[.int .i64 h, .int .i64 s], .int .i64 n] w fun e w' => e = .returned (.agg #[.int .i64 (cnt n), .int .i64 (smo (cnt h) (cnt s))]) ∧ Below w.heap.size w w' := by
  obtain ⟨w2, hw2, B, N1, N2⟩ := box2 w h s
  obtain ⟨g, hg⟩ : ∃ g, w.heap.size = g := ⟨_, rfl⟩
  rw [hg] at N1 N2
  have HB : Hd (Below w.heap.size w w2) := ⟨B⟩
  have HG : Hd (w.heap.size = g) := ⟨hg⟩
  have H1 : Hd (Blk w2 g 23 (dmA h s)) := ⟨N1⟩
  have H2 : Hd (Blk w2 (g + 1) 23 (dmA 0 0)) := ⟨N2⟩
  obtain ⟨⟨c0, c1⟩, f0, f1⟩ := N1.two
  clear B N1 N2
  have CN : Hd (∀ W, Calls Try.prog 12 #[.int .i64 n] W fun e w' => e = .returned (.int .i64 (cnt n)) ∧ w' = W) := ⟨counted_ok n⟩
  have HH := held_ok h s w2
  have SM : Hd (∀ W, Calls Try.prog 14 #[.agg #[.int .i64 (cnt h), .int .i64 (cnt s)]] W fun e w' => e = .returned (.int .i64 (smo (cnt h) (cnt s))) ∧ Below W.heap.size W w') := ⟨fun W => smooth_ok (cnt h) (cnt s) W (cnt_lo h) (cnt_hi h) (cnt_lo s) (cnt_hi s)⟩
  generalize smo (cnt h) (cnt s) = u at *
  generalize cnt h = x at *
  generalize cnt s = y at *
  generalize cnt n = z at *
  go_enter Try.func9, Try.ntmps9
  go_upto_region 1 with fail
  rw [← hw2]
  clear hw2 hg
  go_wp2_with fail
  go_at_call 11
  refine HH.mono ?_
  rintro e w3 ⟨rfl, b3⟩
  have K := Kept.of_below b3 (fun _ => False)
  clear c0 c1 f0 f1
  obtain ⟨⟨c0, c1⟩, f0, f1⟩ := (H1.out.kept K id).two
  obtain ⟨P1, P2, P3⟩ := put1 HB.out HG.out H1.out H2.out b3 x y
  clear HH K b3 HB H1 H2
  have PB : Hd (Below _ _ _) := ⟨P1⟩
  have PX : Hd (Blk _ _ _ _) := ⟨P2⟩
  have PY : Hd (Blk _ _ _ _) := ⟨P3⟩
  clear P1 P2 P3
  go_upto_region 2 with fail
  clear c0 c1 f0 f1
  generalize World.setCell _ _ _ = w4 at *
  have PB' : Hd (Below w.heap.size w w4.drew) := ⟨PB.out.drew⟩
  have PX' : Blk w4.drew g 23 (dmA x y) := PX.out
  have PY' : Hd (Blk w4.drew (g + 1) 23 (dmA 0 0)) := ⟨PY.out⟩
  clear PB PX PY
  refine region_tail 3 (by kernel_rfl) ?_
  simp only [List.take_succ_cons, List.take_zero, List.drop_succ_cons, List.drop_zero]
  generalize w4.drew = w5 at *
  obtain ⟨⟨c0, c1⟩, -, -⟩ := PX'.two
  clear PX'
  still_step
  still_call (CN.out _)
  still_step
  refine wpStill_nil ?_
  have S := SM.out w5
  go_wp2_with fail
  go_at_call 14
  refine S.mono ?_
  rintro e w6 ⟨rfl, b6⟩
  have PZ := PY'.out.kept (Kept.of_below b6 (fun _ => False)) id
  obtain ⟨⟨e0, e1⟩, f0, f1⟩ := PZ.two
  obtain ⟨q1, q2⟩ := put2 (PB'.out.trans (b6.mono PB'.out.size)) HG.out PZ z u
  have Q1 : Hd (Below _ _ _) := ⟨q1⟩
  have Q2 : Hd (Blk _ _ _ _) := ⟨q2⟩
  clear q1 q2 PZ PB' PY' S SM b6 c0 c1
  go_wp2_with fail
  refine bodyPost_ret (resTn _ _ _ rfl Q2.out) rfl ?_
  exact ⟨rfl, Q1.out⟩
end Go.Proofs.Ytdcloonphnjjpaa
