/-
  What 'counted', 'held', 'smooth', 'Note' and 'Turn' of demand answer. Conditions: numbers fit their type.
-/
import Derived.Test.YtdcloonphnjjpaaBas
import Derived.Test.YtdcloonphnjjpaaMth
import Derived.Test.YtdcloonphnjjpaaOrQ
namespace Go.Proofs.Ytdcloonphnjjpaa
open Go.RowKit

theorem counted_ok (n : Int) (w : World) : Calls Try.prog 12 #[.int .i64 n] w fun e w' => e = .returned (.int .i64 (cnt n)) ∧ w' = w := by
  unfold cnt
  go_enter Try.func12, Try.ntmps12
  go_wp2
  go_ret; exact ⟨rfl, rfl⟩

theorem in_ok (n : Int) (w : World) : Calls Try.prog 13 #[.int .i64 n] w fun e w' => e = .returned (.int .i64 (cnt n)) ∧ w' = w := by
  by_cases c : n < 0
  · have HE : Hd (cnt n = 0) := ⟨by unfold cnt; omega⟩
    generalize cnt n = z at *
    go_enter Try.func13, Try.ntmps13
    go_wp2
    go_ret; exact ⟨by rw [HE.out]; rfl, rfl⟩
  · by_cases d : 1048576 < n
    · have HE : Hd (cnt n = 1048576) := ⟨by unfold cnt; omega⟩
      generalize cnt n = z at *
      go_enter Try.func13, Try.ntmps13
      go_wp2
      go_ret; exact ⟨by rw [HE.out]; rfl, rfl⟩
    · have HE : Hd (cnt n = n) := ⟨by unfold cnt; omega⟩
      generalize cnt n = z at *
      go_enter Try.func13, Try.ntmps13
      go_wp2
      go_ret; exact ⟨by rw [HE.out]; rfl, rfl⟩

theorem smooth_ok (h s : Int) (w : World) (h0 : 0 ≤ h) (h1 : h ≤ 1048576) (s0 : 0 ≤ s) (s1 : s ≤ 1048576) :
    Calls Try.prog 14 #[.agg #[.int .i64 h, .int .i64 s]] w fun e w' => e = .returned (.int .i64 (smo h s)) ∧ Below w.heap.size w w' := by
  obtain ⟨w1, hw1⟩ : ∃ w1, w1 = w.alloc (.cells #[.int .i64 h, .int .i64 s] 23) := ⟨_, rfl⟩
  have B : Hd (Below w.heap.size w w1) := ⟨by rw [hw1]; exact alloc_below _ _⟩
  have N1 : Blk w1 w.heap.size 23 (dmA h s) := by rw [hw1]; exact Blk.new _ _ _
  obtain ⟨⟨c0, c1⟩, -, -⟩ := N1.two
  clear N1
  by_cases c : s ≤ h
  · have HE : Hd (smo h s = h) := ⟨smo_le c⟩
    generalize smo h s = z at *
    go_enter Try.func14, Try.ntmps14
    go_upto_region 1 with fail
    rw [← hw1]
    clear hw1
    go_wp2
    go_ret; exact ⟨by rw [HE.out]; rfl, B.out⟩
  · have HE : Hd (smo h s = s - (s - h + 3) / 4) := ⟨smo_gt c⟩
    generalize smo h s = z at *
    go_enter Try.func14, Try.ntmps14
    go_upto_region 1 with fail
    rw [← hw1]
    clear hw1
    go_wp2
    go_ret; exact ⟨by rw [HE.out]; rfl, B.out⟩

theorem resHd (tmps : Array Value) (w : World) (g : Nat) {h s : Int} (ht : tmps[2]?.getD undef = .pointer (some ⟨g, 0, none⟩)) (k : Blk w g 23 (dmA h s)) :
    (results Try.f11 tmps).run Try.prog w = .ok (.agg #[.int .i64 h, .int .i64 s]) w := by
  obtain ⟨⟨c0, c1⟩, -, -⟩ := k.two
  simp [results, Try.results11, go_sem, ht, c0, c1]
theorem resNt (tmps : Array Value) (w : World) (g : Nat) {h s : Int} (ht : tmps[4]?.getD undef = .pointer (some ⟨g, 0, none⟩)) (k : Blk w g 23 (dmA h s)) :
    (results Try.f7 tmps).run Try.prog w = .ok (.agg #[.int .i64 h, .int .i64 s]) w := by
  obtain ⟨⟨c0, c1⟩, -, -⟩ := k.two
  simp [results, Try.results7, go_sem, ht, c0, c1]
theorem resTn (tmps : Array Value) (w : World) (g : Nat) {h s : Int} (ht : tmps[4]?.getD undef = .pointer (some ⟨g, 0, none⟩)) (k : Blk w g 23 (dmA h s)) :
    (results Try.f9 tmps).run Try.prog w = .ok (.agg #[.int .i64 h, .int .i64 s]) w := by
  obtain ⟨⟨c0, c1⟩, -, -⟩ := k.two
  simp [results, Try.results9, go_sem, ht, c0, c1]
theorem resRn (tmps : Array Value) (w : World) (g : Nat) {h s : Int} (ht : tmps[4]?.getD undef = .pointer (some ⟨g, 0, none⟩)) (k : Blk w g 23 (dmA h s)) :
    (results Try.f8 tmps).run Try.prog w = .ok (.agg #[.int .i64 h, .int .i64 s]) w := by
  obtain ⟨⟨c0, c1⟩, -, -⟩ := k.two
  simp [results, Try.results8, go_sem, ht, c0, c1]
theorem resRt (tmps : Array Value) (w : World) (g : Nat) {h s : Int} (ht : tmps[4]?.getD undef = .pointer (some ⟨g, 0, none⟩)) (k : Blk w g 23 (dmA h s)) :
    (results Try.f10 tmps).run Try.prog w = .ok (.agg #[.int .i64 h, .int .i64 s]) w := by
  obtain ⟨⟨c0, c1⟩, -, -⟩ := k.two
  simp [results, Try.results10, go_sem, ht, c0, c1]

theorem held_ok (h s : Int) (w : World) :
    Calls Try.prog 11 #[.agg #[.int .i64 h, .int .i64 s]] w fun e w' => e = .returned (.agg #[.int .i64 (cnt h), .int .i64 (cnt s)]) ∧ Below w.heap.size w w' := by
  obtain ⟨w2, hw2⟩ : ∃ w2, w2 = (w.alloc (.cells #[.int .i64 h, .int .i64 s] 23)).alloc (.cells #[.int .i64 0, .int .i64 0] 23) := ⟨_, rfl⟩
  have BX := boxes w 23 23 #[.int .i64 h, .int .i64 s] #[.int .i64 0, .int .i64 0]
  rw [← hw2] at BX
  obtain ⟨B, N1, N2⟩ := BX
  have B' : Hd (Below w.heap.size w w2.drew) := ⟨B.drew⟩
  obtain ⟨⟨c0, c1⟩, -, -⟩ := Blk.two (w := w2.drew) (h := h) (s := s) N1
  obtain ⟨-, f0, f1⟩ := Blk.two (w := w2.drew) (h := 0) (s := 0) N2
  obtain ⟨⟨e0, e1⟩, -, -⟩ := Blk.two (w := w2.drew) (h := 0) (s := 0) N2
  obtain ⟨q1, q2⟩ := dm_set (w := w2.drew) (h := 0) (s := 0) N2 (cnt h) (cnt s)
  have Q1 : Hd (Blk _ _ _ _) := ⟨q1⟩
  have Q2 : Hd (Kept _ _ _) := ⟨q2⟩
  clear q1 q2 N1 N2 B
  have C1 : Hd (∀ W, Calls Try.prog 12 #[.int .i64 h] W fun e w' => e = .returned (.int .i64 (cnt h)) ∧ w' = W) := ⟨counted_ok h⟩
  have C2 : Hd (∀ W, Calls Try.prog 12 #[.int .i64 s] W fun e w' => e = .returned (.int .i64 (cnt s)) ∧ w' = W) := ⟨counted_ok s⟩
  generalize cnt h = x at *
  generalize cnt s = y at *
  go_enter Try.func11, Try.ntmps11
  go_upto_region 1 with fail
  rw [← hw2]
  clear hw2
  refine region_tail 7 (by kernel_rfl) ?_
  simp only [List.take_succ_cons, List.take_zero, List.drop_succ_cons, List.drop_zero]
  generalize w2.drew = w3 at *
  still_step
  still_step
  still_call (C1.out _)
  still_step
  still_step
  still_call (C2.out _)
  still_step
  refine wpStill_nil ?_
  go_wp2_with fail
  refine bodyPost_ret (resHd _ _ _ rfl Q1.out) rfl ?_
  exact ⟨rfl, B'.out.trans (Q2.out.below B'.out.size (fun k e => by rw [e]; omega))⟩
end Go.Proofs.Ytdcloonphnjjpaa
