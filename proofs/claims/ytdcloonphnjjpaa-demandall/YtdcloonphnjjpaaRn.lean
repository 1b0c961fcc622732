/-
  What the reference's 'Note' and 'Turn' answer. Conditions: numbers fit their type.
-/
import Derived.Test.YtdcloonphnjjpaaWn
namespace Go.Proofs.Ytdcloonphnjjpaa
open Go.RowKit

set_option maxRecDepth 20000 in
set_option maxHeartbeats 1000000 in
theorem rnote_ok (h s n : Int) (w : World) :
    Calls Try.prog 8 #[.agg #[.int .i64 h, .int .i64 s], .int .i64 n] w fun e w' => e = .returned (.agg #[.int .i64 (max (cnt h) (cnt n)), .int .i64 (cnt s)]) ∧ Below w.heap.size w w' := by
  obtain ⟨w2, hw2, B, N1, N2⟩ := box2 w h s
  obtain ⟨g, hg⟩ : ∃ g, w.heap.size = g := ⟨_, rfl⟩
  rw [hg] at N1 N2
  have HB : Hd (Below w.heap.size w w2) := ⟨B⟩
  have HG : Hd (w.heap.size = g) := ⟨hg⟩
  have H1 : Hd (Blk w2.drew g 23 (dmA h s)) := ⟨N1⟩
  have H2 : Hd (Blk w2.drew (g + 1) 23 (dmA 0 0)) := ⟨N2⟩
  have HB' : Hd (Below w.heap.size w w2.drew) := ⟨B.drew⟩
  clear B N1 N2 HB
  have CN : Hd (∀ W, Calls Try.prog 13 #[.int .i64 n] W fun e w' => e = .returned (.int .i64 (cnt n)) ∧ w' = W) := ⟨in_ok n⟩
  have CH : Hd (∀ W, Calls Try.prog 13 #[.int .i64 h] W fun e w' => e = .returned (.int .i64 (cnt h)) ∧ w' = W) := ⟨in_ok h⟩
  have CS : Hd (∀ W, Calls Try.prog 13 #[.int .i64 s] W fun e w' => e = .returned (.int .i64 (cnt s)) ∧ w' = W) := ⟨in_ok s⟩
  generalize cnt h = x at *
  generalize cnt s = y at *
  generalize cnt n = z at *
  go_enter Try.func8, Try.ntmps8
  go_upto_region 1 with fail
  rw [← hw2]
  clear hw2 hg
  refine region_tail 7 (by kernel_rfl) ?_
  simp only [List.take_succ_cons, List.take_zero, List.drop_succ_cons, List.drop_zero]
  generalize w2.drew = w3 at *
  obtain ⟨⟨c0, c1⟩, f0, f1⟩ := H1.out.two
  obtain ⟨P1, P2, P3⟩ := put1 HB'.out HG.out H1.out H2.out (Below.refl _ _) x y
  have PB : Hd (Below _ _ _) := ⟨P1⟩
  have PX : Hd (Blk _ _ _ _) := ⟨P2⟩
  have PY : Hd (Blk _ _ _ _) := ⟨P3⟩
  clear P1 P2 P3 H1 H2 HB'
  still_step
  still_step
  still_call (CH.out _)
  still_step
  still_step
  still_call (CS.out _)
  still_step
  refine wpStill_nil ?_
  go_upto_region 2 with fail
  clear c0 c1 f0 f1
  generalize World.setCell _ _ _ = w4 at *
  have PB' : Hd (Below w.heap.size w w4.drew) := ⟨PB.out.drew⟩
  have PX' : Blk w4.drew g 23 (dmA x y) := PX.out
  have PY' : Hd (Blk w4.drew (g + 1) 23 (dmA 0 0)) := ⟨PY.out⟩
  clear PB PX PY
  refine region_tail 4 (by kernel_rfl) ?_
  simp only [List.take_succ_cons, List.take_zero, List.drop_succ_cons, List.drop_zero]
  generalize w4.drew = w5 at *
  obtain ⟨⟨c0, c1⟩, f0, f1⟩ := PX'.two
  by_cases c : x < z
  · have HE : Hd (max x z = z) := ⟨by omega⟩
    still_step
    still_call (CN.out _)
    still_step
    still_step
    refine wpStill_nil ?_
    have S := CN.out w5
    have V1 : Blk (w5.setCell ⟨g, 0, none⟩ (.int .i64 z)) g 23 (dmA z y) := PX'.set 0 _
    have V2 : Blk (w5.setCell ⟨g, 0, none⟩ (.int .i64 z)) (g + 1) 23 (dmA 0 0) := PY'.out.other (p := ⟨g, 0, none⟩) (by simp) _
    have V3 : Hd (Below w.heap.size w (w5.setCell ⟨g, 0, none⟩ (.int .i64 z))) := ⟨PB'.out.setCell (p := ⟨g, 0, none⟩) (by rw [HG.out]; exact Nat.le_refl _) _⟩
    clear CN CH CS
    go_upto_region 3 with fail
    go_wp2_with fail
    go_at_call 13
    refine S.mono ?_
    rintro e w' ⟨rfl, hw⟩
    obtain rfl := hw.symm
    clear S
    go_upto_region 4 with fail
    clear c0 c1 f0 f1 PX' PY' PB'
    generalize World.setCell _ _ _ = w6 at *
    obtain ⟨⟨c0, c1⟩, -, -⟩ := V1.two
    obtain ⟨⟨e0, e1⟩, f0, f1⟩ := V2.two
    obtain ⟨q1, q2⟩ := put2 V3.out HG.out V2 z y
    have Q1 : Hd (Below _ _ _) := ⟨q1⟩
    have Q2 : Hd (Blk _ _ _ _) := ⟨q2⟩
    clear q1 q2 V1 V2 V3
    go_wp2_with fail
    refine bodyPost_ret (resRn _ _ _ rfl Q2.out) rfl ?_
    exact ⟨by rw [HE.out], Q1.out⟩
  · have HE : Hd (max x z = x) := ⟨by omega⟩
    still_step
    still_call (CN.out _)
    still_step
    still_step
    refine wpStill_nil ?_
    clear CN CH CS
    obtain ⟨⟨e0, e1⟩, f2, f3⟩ := PY'.out.two
    obtain ⟨q1, q2⟩ := put2 PB'.out HG.out PY'.out x y
    have Q1 : Hd (Below _ _ _) := ⟨q1⟩
    have Q2 : Hd (Blk _ _ _ _) := ⟨q2⟩
    clear q1 q2 PX' PY' PB'
    go_wp2_with fail
    refine bodyPost_ret (resRn _ _ _ rfl Q2.out) rfl ?_
    exact ⟨by rw [HE.out], Q1.out⟩

set_option maxRecDepth 20000 in
set_option maxHeartbeats 1000000 in
theorem rturn_ok (h s n : Int) (w : World) :
    Calls Try.prog 10 #[.agg #[.int .i64 h, .int .i64 s], .int .i64 n] w fun e w' => e = .returned (.agg #[.int .i64 (cnt n), .int .i64 (smo (cnt h) (cnt s))]) ∧ Below w.heap.size w w' := by
  obtain ⟨w2, hw2, B, N1, N2⟩ := box2 w h s
  obtain ⟨g, hg⟩ : ∃ g, w.heap.size = g := ⟨_, rfl⟩
  rw [hg] at N1 N2
  have HB : Hd (Below w.heap.size w w2) := ⟨B⟩
  have HG : Hd (w.heap.size = g) := ⟨hg⟩
  have H1 : Hd (Blk w2.drew g 23 (dmA h s)) := ⟨N1⟩
  have H2 : Hd (Blk w2.drew (g + 1) 23 (dmA 0 0)) := ⟨N2⟩
  have HB' : Hd (Below w.heap.size w w2.drew) := ⟨B.drew⟩
  clear B N1 N2 HB
  have CN : Hd (∀ W, Calls Try.prog 13 #[.int .i64 n] W fun e w' => e = .returned (.int .i64 (cnt n)) ∧ w' = W) := ⟨in_ok n⟩
  have CH : Hd (∀ W, Calls Try.prog 13 #[.int .i64 h] W fun e w' => e = .returned (.int .i64 (cnt h)) ∧ w' = W) := ⟨in_ok h⟩
  have CS : Hd (∀ W, Calls Try.prog 13 #[.int .i64 s] W fun e w' => e = .returned (.int .i64 (cnt s)) ∧ w' = W) := ⟨in_ok s⟩
  have x0 := cnt_lo h
  have x1 := cnt_hi h
  have y0 := cnt_lo s
  have y1 := cnt_hi s
  generalize cnt h = x at *
  generalize cnt s = y at *
  generalize cnt n = z at *
  go_enter Try.func10, Try.ntmps10
  go_upto_region 1 with fail
  rw [← hw2]
  clear hw2 hg
  refine region_tail 6 (by kernel_rfl) ?_
  simp only [List.take_succ_cons, List.take_zero, List.drop_succ_cons, List.drop_zero]
  generalize w2.drew = w3 at *
  obtain ⟨⟨c0, c1⟩, -, -⟩ := H1.out.two
  clear H1
  still_step
  still_step
  still_call (CH.out _)
  still_step
  still_step
  still_call (CS.out _)
  refine wpStill_nil ?_
  have S := CN.out w3
  clear CN CH CS
  obtain ⟨⟨e0, e1⟩, f0, f1⟩ := H2.out.two
  by_cases c : y ≤ x
  · have HE : Hd (smo x y = x) := ⟨smo_le c⟩
    obtain ⟨q1, q2⟩ := put2 HB'.out HG.out H2.out z x
    have Q1 : Hd (Below _ _ _) := ⟨q1⟩
    have Q2 : Hd (Blk _ _ _ _) := ⟨q2⟩
    clear q1 q2 HB' H2
    go_wp2_with fail
    go_at_call 13
    refine S.mono ?_
    rintro e w' ⟨rfl, hw⟩
    obtain rfl := hw.symm
    go_wp2_with fail
    refine bodyPost_ret (resRt _ _ _ rfl Q2.out) rfl ?_
    exact ⟨by rw [HE.out], Q1.out⟩
  · by_cases d : 4 * ((y - x) / 4) < y - x
    · have HE : Hd (smo x y = y - ((y - x) / 4 + 1)) := ⟨by rw [smo_gt c]; omega⟩
      obtain ⟨q1, q2⟩ := put2 HB'.out HG.out H2.out z (y - ((y - x) / 4 + 1))
      have Q1 : Hd (Below _ _ _) := ⟨q1⟩
      have Q2 : Hd (Blk _ _ _ _) := ⟨q2⟩
      clear q1 q2 HB' H2
      go_wp2_with fail
      go_at_call 13
      refine S.mono ?_
      rintro e w' ⟨rfl, hw⟩
      obtain rfl := hw.symm
      go_wp2_with fail
      refine bodyPost_ret (resRt _ _ _ rfl Q2.out) rfl ?_
      exact ⟨by rw [HE.out], Q1.out⟩
    · have HE : Hd (smo x y = y - (y - x) / 4) := ⟨by rw [smo_gt c]; omega⟩
      obtain ⟨q1, q2⟩ := put2 HB'.out HG.out H2.out z (y - (y - x) / 4)
      have Q1 : Hd (Below _ _ _) := ⟨q1⟩
      have Q2 : Hd (Blk _ _ _ _) := ⟨q2⟩
      clear q1 q2 HB' H2
      go_wp2_with fail
      go_at_call 13
      refine S.mono ?_
      rintro e w' ⟨rfl, hw⟩
      obtain rfl := hw.symm
      go_wp2_with fail
      refine bodyPost_ret (resRt _ _ _ rfl Q2.out) rfl ?_
      exact ⟨by rw [HE.out], Q1.out⟩
end Go.Proofs.Ytdcloonphnjjpaa
