/-
  Who has waited too long, by the program and by the reference. Conditions: the lane lies in memory, and is short.
-/
import Derived.Test.YtbnjjckcnlfapaaWd
namespace Go.Proofs.Ytbnjjckcnlfapaa
open Go.RowKit

/-- Who of the first k has waited too long. -/
def lateTo (now : Int) (L : List Tk) : Nat → List Tk
  | 0 => []
  | k + 1 => lateTo now L k ++ (if (gt L k).unt ≤ now then [gt L k] else [])
theorem lateTo_len (now : Int) (L : List Tk) : ∀ k, (lateTo now L k).length ≤ k
  | 0 => Nat.le_refl 0
  | k + 1 => by
    have := lateTo_len now L k
    simp only [lateTo, List.length_append]
    split <;> simp <;> omega
theorem lateTo_yes {now : Int} {L : List Tk} {k : Nat} (h : (gt L k).unt ≤ now) : lateTo now L (k + 1) = lateTo now L k ++ [gt L k] := by simp only [lateTo, if_pos h]
theorem lateTo_no {now : Int} {L : List Tk} {k : Nat} (h : ¬ (gt L k).unt ≤ now) : lateTo now L (k + 1) = lateTo now L k := by simp only [lateTo, if_neg h, List.append_nil]
/-- A row of the call's own that holds these tickets. -/
def OwnT (w : World) (B : Nat) (v : Value) (L : List Tk) : Prop := w.ownsRow B 27 5 v L.length (tkCs L)
theorem OwnT.add {w : World} {B : Nat} {v : Value} {L : List Tk} {t : Tk} (h : w.ownsRow B 27 5 v (L.length + 1) (tkCs L ++ tkC t)) : OwnT w B v (L ++ [t]) := by
  unfold OwnT
  rw [List.length_append, tkCs_append, tkCs_single]
  exact h
theorem one_newK (w : World) (t : Tk) : ∀ j u, (tkC t)[j]? = some u → (w.alloc (.cells (tkA t) 27)).cell? ((⟨w.heap.size, 0, none⟩ : Addr).add j) = some u := by
  intro j u hj
  have N := Blk.new w 27 (tkA t)
  rw [Go.WideShapes.add_plain, Nat.zero_add, N.cell j]
  simpa [tkA, tkC] using hj
theorem one_cellK (t : Tk) : ∀ u ∈ tkC t, u.oneCell' = true := by
  intro u hu
  simp [tkC] at hu
  rcases hu with rfl | rfl | rfl | rfl | rfl <;> rfl

set_option maxRecDepth 20000 in
set_option maxHeartbeats 1000000 in
theorem late_ok (s : Int) (a : Option Addr) (c : Nat) (L : List Tk) (now : Int) (w : World) (h : TkR w a L) (hl : L.length ≤ 2000) :
    Calls Try.prog 20 #[.agg #[.int .u64 s, .slice a L.length c], .int .i64 now] w fun e w' => ∃ v, e = .returned v ∧ OwnT w' w.heap.size v (lateTo now L L.length) ∧ Below w.heap.size w w' := by
  obtain ⟨i0, hi, hz0, hz1, hz2⟩ := info_parts Try.info27
  obtain ⟨w1, hw1⟩ : ∃ w1, w1 = w.alloc (.cells #[.int .u64 s, .slice a L.length c] 25) := ⟨_, rfl⟩
  have B : Below w.heap.size w w1 := by rw [hw1]; exact alloc_below _ _
  have N1 : Blk w1 w.heap.size 25 (lnA s (.slice a L.length c)) := by rw [hw1]; exact Blk.new _ _ _
  obtain ⟨⟨c0, c1⟩, -⟩ := N1.lane
  have H : Hd (TkR w1 a L ∧ Below w.heap.size w w1) := ⟨h.carry B, B⟩
  obtain ⟨n, hn⟩ : ∃ n, L.length = n := ⟨_, rfl⟩
  have HL : Hd (L.length = n) := ⟨hn⟩
  rw [hn] at hl c1 hw1 ⊢
  clear hn N1 B h
  go_enter Try.func20, Try.ntmps20
  go_upto_region 1 with fail
  rw [← hw1]
  clear hw1
  go_wp2
  clear c0 c1
  go_loopw [5, 11] (fun v i wr => ∃ k : Nat, k ≤ n ∧ OwnT wr w1.heap.size v (lateTo now L k) ∧ i = .int .i64 k ∧ Below w1.heap.size w1 wr) (fun _ i _ => n - (intOf i).toNat)
  case atStart => exact ⟨0, Nat.zero_le _, World.ownsRow_nil _ _ _ _, rfl, Below.refl _ _⟩
  case round =>
    obtain ⟨k, hk, hv, rfl, p3⟩ := hrel
    by_cases hlt : k < n
    · obtain ⟨b1, o1, rfl, hb1, d0, d1, d2, d3, d4⟩ := (H.out.1.carry p3).at (k := k) (by rw [HL.out]; exact hlt)
      have ll := lateTo_len now L k
      have bq : Hd (Below w1.heap.size w1 (wr.alloc (.cells (tkA (gt L k)) 27))) := ⟨p3.alloc p3.size _⟩
      have oq : Hd (OwnT (wr.alloc (.cells (tkA (gt L k)) 27)) w1.heap.size _ (lateTo now L k)) := ⟨World.ownsRow.alloc hv _⟩
      have nq : Hd (Blk (wr.alloc (.cells (tkA (gt L k)) 27)) wr.heap.size 27 (tkA (gt L k))) := ⟨Blk.new _ _ _⟩
      have hsz := p3.size
      obtain ⟨w4, hw4⟩ : ∃ w4, w4 = wr.alloc (.cells (tkA (gt L k)) 27) := ⟨_, rfl⟩
      have hw4' : Hd (w4.heap.size = wr.heap.size + 1) := ⟨by rw [hw4]; simp⟩
      rw [← hw4] at bq oq nq
      have hw5 := hw4
      unfold tkA at hw5
      clear p3 hw4 hv
      by_cases u : (gt L k).unt ≤ now
      · have E1 : Hd (lateTo now L (k + 1) = lateTo now L k ++ [gt L k]) := ⟨lateTo_yes u⟩
        have NW : Hd (∀ W : World, (∀ j u, (tkC (gt L k))[j]? = some u → (W.alloc (.cells (tkA (gt L k)) 27)).cell? ((⟨W.heap.size, 0, none⟩ : Addr).add j) = some u)) := ⟨fun W => one_newK W _⟩
        have OC : Hd (∀ u ∈ tkC (gt L k), u.oneCell' = true) := ⟨one_cellK _⟩
        generalize hT : gt L k = z at *
        obtain ⟨z0, z1, z2, z3, z4⟩ := z
        simp only [tkA, tkC] at *
        go_upto_region 5 with fail
        rw [← hw5]
        clear hw5 d0 d1 d2 d3 d4
        obtain ⟨⟨d0, d1, d2, d3, d4⟩, -⟩ := Blk.five (t := ⟨z0, z1, z2, z3, z4⟩) nq.out
        simp only at d0 d1 d2 d3 d4
        go_wp2_with (at_builtin; refine wpList_append_lies _ rfl (.tmp 19) (.tmp 21) 23 rfl w1.heap.size 27 i0 (.agg #[.int .i64 0, .int .i64 0, .int .i64 0, .int .i64 0, .int .i64 0]) 5 40 Try.underlying23 hi hz0 hz1 hz2 rfl (by decide) _ (lateTo now L k).length (tkCs (lateTo now L k)) rfl (World.ownsRow.alloc oq.out _) ⟨w4.heap.size, 0, none⟩ 1 1 [.int .i64 z0, .int .i64 z1, .int .i64 z2, .int .i64 z3, .int .i64 z4] rfl rfl (NW.out _) OC.out (by decide) (by unfold maxLen; omega) (by omega) (by simp; have := hw4'.out; omega) _ rfl ?_; intro g1 cap1 w5 hown1 hgrow1 hat1 hlt1)
        have ho : OwnT w5 w1.heap.size _ (lateTo now L k ++ [(⟨z0, z1, z2, z3, z4⟩ : Tk)]) := OwnT.add hown1
        have b5 : Below w1.heap.size w1 w5 := (bq.out.alloc bq.out.size _).grown hgrow1 (by simp; have := bq.out.size; omega) (fun q e => (oq.out.lt q e).1)
        have R : Hd (_ ∧ _) := ⟨ho, b5⟩
        clear hown1 hgrow1 hat1 ho b5 d0 d1 d2 d3 d4
        go_wp2
        go_roundw
        case rel => exact ⟨k + 1, by omega, by rw [E1.out]; exact R.out.1, by go_num, R.out.2⟩
        case measure => simp [intOf]; omega
      · have E1 : Hd (lateTo now L (k + 1) = lateTo now L k) := ⟨lateTo_no u⟩
        generalize hT : gt L k = z at *
        obtain ⟨z0, z1, z2, z3, z4⟩ := z
        simp only [tkA] at *
        go_upto_region 5 with fail
        rw [← hw5]
        clear hw5 d0 d1 d2 d3 d4
        obtain ⟨⟨d0, d1, d2, d3, d4⟩, -⟩ := Blk.five (t := ⟨z0, z1, z2, z3, z4⟩) nq.out
        simp only at d0 d1 d2 d3 d4
        go_wp2
        go_roundw
        case rel => exact ⟨k + 1, by omega, by rw [E1.out]; exact oq.out, by go_num, bq.out⟩
        case measure => simp [intOf]; omega
    · obtain rfl : k = n := by omega
      have R : Hd (_ ∧ _) := ⟨hv, p3⟩
      clear hv p3
      go_wp2
      go_ret
      exact ⟨_, rfl, (show OwnT _ _ _ _ from ⟨R.out.1.1, R.out.1.2.imp id (fun ⟨g, cap, cur, e, hb, r⟩ => ⟨g, cap, cur, e, Nat.le_trans H.out.2.size hb, r⟩)⟩), H.out.2.trans (R.out.2.mono H.out.2.size)⟩
end Go.Proofs.Ytbnjjckcnlfapaa
