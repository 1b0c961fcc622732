/-
  The statements' fixed answer is met. No condition.
-/
import Derived.Test.YtemmkkcfjhmomabFq
import Derived.Test.YtemmkkcfjhmomabTy
namespace Go.Proofs.Ytemmkkcfjhmomab
open Go.RowKit

def aF : List Ln := jnF (nwF 2) 1 0 ⟨7, 3, 0, 0, 0⟩
theorem aF_few : Few aF := ⟨by decide, by
  intro l hl
  have : aF = [⟨0, []⟩, ⟨0, [⟨7, 3, 0, 0, 0⟩]⟩] := rfl
  rw [this] at hl
  simp at hl
  rcases hl with rfl | rfl <;> exact ⟨⟨by decide, by decide⟩, by decide⟩⟩
theorem nw_few : Few (nwF 2) := ⟨by decide, by
  intro l hl
  rw [(List.mem_replicate.1 hl).2]
  exact ⟨⟨by decide, by decide⟩, by decide⟩⟩

set_option maxRecDepth 20000 in
set_option maxHeartbeats 1000000 in
theorem awake_ok (w : World) : Calls Try.prog 4 #[] w fun e w' => e = .returned (.bool true) ∧ Below w.heap.size w w' := by
  have NW := new_yes 2 10 5 w ⟨⟨by decide, by decide⟩, ⟨by decide, by decide⟩, by decide, by decide⟩
  go_enter Try.func4, Try.ntmps4
  go_wp2_with fail
  go_at_call 12
  refine NW.mono ?_
  rintro e w1 ⟨⟨v1, rfl, u1, rfl, o1⟩, b1⟩
  clear NW
  obtain ⟨a1, c1, e1, r1⟩ := o1.read
  have e1 : u1 = .slice a1 2 c1 := e1
  subst e1
  simp only [show ((2 : Nat) : Int) = 2 from rfl]
  obtain ⟨w2, hw2⟩ : ∃ w2, w2 = w1.alloc (.cells #[.int .u64 0, .int .i64 10, .int .i64 5, .int .i64 2, .slice a1 2 c1] 25) := ⟨_, rfl⟩
  have B2 : Below w1.heap.size w1 w2 := by rw [hw2]; exact alloc_below _ _
  have N2 : Blk w2 w1.heap.size 25 (faA 0 10 5 2 (.slice a1 2 c1)) := by rw [hw2]; exact Blk.new _ _ _
  obtain ⟨w3, hw3⟩ : ∃ w3, w3 = w2.alloc (.cells #[.int .i64 1] 3) := ⟨_, rfl⟩
  have B3 : Below w2.heap.size w2 w3 := by rw [hw3]; exact alloc_below _ _
  have N3 : Blk w3 w2.heap.size 3 #[.int .i64 1] := by rw [hw3]; exact Blk.new _ _ _
  have b13 := B2.trans (B3.mono B2.size)
  have HH : HnR w3 (some ⟨w2.heap.size, 0, none⟩) 1 (fun _ => 1) := fun _ => ⟨w2.heap.size, 0, rfl, N3.lt, fun k hk => by
    obtain rfl : k = 0 := by omega
    exact N3.cellv 0 rfl⟩
  have JN := fjoin_yes 0 10 5 2 a1 c1 (nwF 2) (some ⟨w2.heap.size, 0, none⟩) 1 1 (fun _ => 1) ⟨7, 3, 0, 0, 0⟩ w3 (r1.carry b13) nw_few HH (by decide) 1 (by decide) (by rfl) (by decide)
  rw [show (nwF 2).length = 2 from rfl] at JN
  obtain ⟨⟨x0, x1, x2, x3, x4⟩, -⟩ := N2.fair
  have H2 : Hd (Below w.heap.size w w3 ∧ Blk w3 w1.heap.size 25 (faA 0 10 5 2 (.slice a1 2 c1))) := ⟨b1.trans (b13.mono b1.size), N2.kept (Kept.of_below B3 (fun _ => False)) id⟩
  have hs1 : w.heap.size ≤ w1.heap.size := b1.size
  clear o1 r1 b1 B2 N2 B3 N3 b13 HH
  go_upto_region 2 with fail
  rw [← hw2]
  clear hw2
  generalize w1.heap.size = y at *
  go_wp2_with fail
  rw [← hw3]
  clear hw3 x0 x1 x2 x3 x4
  go_at_call 13
  refine JN.mono ?_
  rintro e w4 ⟨⟨v4, rfl, a4, c4, rfl, s4⟩, b4⟩
  clear JN
  simp only [show (jnF (nwF 2) 1 0 ⟨7, 3, 0, 0, 0⟩ : List Ln).length = 2 from rfl, show ((1 : Nat) : Int) = 1 from rfl]
  have s4 : StR (fun j => j < w3.heap.size) w4 a4 c4 aF := s4
  have NY := H2.out.2.kept (Kept.of_below b4 (fun _ => False)) id
  have hy := H2.out.2.lt
  obtain ⟨⟨x0, x1, x2, x3, x4⟩, xf0, xf1, xf2, xf3, xf4⟩ := NY.fair
  obtain ⟨q5, k5⟩ := fair_set NY 0 10 5 2 (.slice a4 2 c4)
  have r5 := s4.read (k5.mono (fun j _ e => by have : j = y := e; show j < w3.heap.size; omega))
  have B5 := (H2.out.1.trans (b4.mono H2.out.1.size)).trans (k5.below (B := w.heap.size) (by have := b4.size; omega) (fun j e => by omega))
  have TK := fun W (h : LsR W a4 c4 aF) => ftake_yes 0 10 5 2 a4 c4 aF W h aF_few 1 (by rfl)
  rw [show (aF.length = 2) from rfl, show gt (gl aF 1).L 0 = ⟨7, 3, 0, 0, 0⟩ from rfl, show max (0 : Int) (fN 10 (gl aF 1)) = 30 from by decide] at TK
  simp only at TK
  have HTK : Hd (Calls Try.prog 10 _ _ _) := ⟨TK _ r5⟩
  obtain ⟨⟨z0, z1, z2, z3, z4⟩, -⟩ := q5.fair
  have H5 : Hd (Below w.heap.size w _) := ⟨B5⟩
  clear s4 b4 H2 NY q5 k5 r5 B5 TK
  go_upto_region 5 with fail
  clear x0 x1 x2 x3 x4 xf0 xf1 xf2 xf3 xf4
  generalize World.setCell _ _ _ = w5 at *
  go_wp2_with fail
  go_at_call 10
  refine HTK.out.mono ?_
  rintro e w6 ⟨⟨v6, rfl, a6, c6, rfl, -⟩, b6⟩
  clear HTK z0 z1 z2 z3 z4
  generalize (trm (tkF aF 1 10) 2).length = m6 at *
  have B7 : Hd (Below w.heap.size w ((w6.alloc (.cells #[.int .u64 30, .int .i64 10, .int .i64 5, .int .i64 2, .slice a6 m6 c6] 25)).alloc (.cells #[.int .i64 7, .int .i64 3, .int .i64 0, .int .i64 0, .int .i64 0] 30))) := ⟨(H5.out.trans (b6.mono H5.out.size)).trans ((boxes w6 25 30 #[.int .u64 30, .int .i64 10, .int .i64 5, .int .i64 2, .slice a6 m6 c6] #[.int .i64 7, .int .i64 3, .int .i64 0, .int .i64 0, .int .i64 0]).1.mono (by have := H5.out.size; have := b6.size; omega))⟩
  clear b6 H5
  go_wp2
  go_ret
  exact ⟨rfl, B7.out⟩
end Go.Proofs.Ytemmkkcfjhmomab
