/-
  Who has waited too long, by the reference; the fixed answer of the statements ('awake') is met. Conditions: the lane lies in memory, and is short.
-/
import Derived.Test.YtbnjjckcnlfapaaJn
import Derived.Test.YtbnjjckcnlfapaaFi
namespace Go.Proofs.Ytbnjjckcnlfapaa
open Go.RowKit

set_option maxRecDepth 20000 in
set_option maxHeartbeats 1000000 in
theorem rlate_ok (s : Int) (a : Option Addr) (c : Nat) (L : List Tk) (now : Int) (w : World) (h : TkR w a L) (hl : L.length ≤ 2000) :
    Calls Try.prog 21 #[.agg #[.int .u64 s, .slice a L.length c], .int .i64 now] w fun e w' => ∃ v, e = .returned v ∧ OwnT w' w.heap.size v (lateTo now L L.length) ∧ Below w.heap.size w w' := by
  obtain ⟨i0, hi, hz0, hz1, hz2⟩ := info_parts Try.info27
  obtain ⟨w1, hw1⟩ : ∃ w1, w1 = w.alloc (.cells #[.int .u64 s, .slice a L.length c] 25) := ⟨_, rfl⟩
  have B : Below w.heap.size w w1 := by rw [hw1]; exact alloc_below _ _
  have N1 : Blk w1 w.heap.size 25 (lnA s (.slice a L.length c)) := by rw [hw1]; exact Blk.new _ _ _
  obtain ⟨n, hn⟩ : ∃ n, L.length = n := ⟨_, rfl⟩
  have HL : Hd (L.length = n) := ⟨hn⟩
  rw [hn] at hl N1 hw1 ⊢
  have H : Hd (TkR w1 a L ∧ Below w.heap.size w w1 ∧ Blk w1 w.heap.size 25 (lnA s (.slice a n c))) := ⟨h.carry B, B, N1⟩
  clear hn N1 B h
  go_enter Try.func21, Try.ntmps21
  go_upto_region 1 with fail
  rw [← hw1]
  clear hw1
  go_wp2
  go_loopw [5, 6] (fun v i wr => ∃ k : Nat, k ≤ n ∧ OwnT wr w1.heap.size v (lateTo now L k) ∧ i = .int .i64 k ∧ Below w1.heap.size w1 wr) (fun _ i _ => n - (intOf i).toNat)
  case atStart => exact ⟨0, Nat.zero_le _, World.ownsRow_nil _ _ _ _, rfl, Below.refl _ _⟩
  case round =>
    obtain ⟨k, hk, hv, rfl, p3⟩ := hrel
    have N1 := H.out.2.2.kept (Kept.of_below p3 (fun _ => False)) id
    obtain ⟨⟨c0, c1⟩, -⟩ := N1.lane
    clear N1
    by_cases hlt : k < n
    · obtain ⟨b1, o1, rfl, hb1, d0, d1, d2, d3, d4⟩ := (H.out.1.carry p3).at (k := k) (by rw [HL.out]; exact hlt)
      have ll := lateTo_len now L k
      have hsz := p3.size
      have P : Hd (Below w1.heap.size w1 wr) := ⟨p3⟩
      have O : Hd _ := ⟨hv⟩
      clear p3 hv
      by_cases u : (gt L k).unt ≤ now
      · have E1 : Hd (lateTo now L (k + 1) = lateTo now L k ++ [gt L k]) := ⟨lateTo_yes u⟩
        have NW : Hd (∀ W : World, (∀ j u, (tkC (gt L k))[j]? = some u → (W.alloc (.cells (tkA (gt L k)) 27)).cell? ((⟨W.heap.size, 0, none⟩ : Addr).add j) = some u)) := ⟨fun W => one_newK W _⟩
        have OC : Hd (∀ u ∈ tkC (gt L k), u.oneCell' = true) := ⟨one_cellK _⟩
        generalize hT : gt L k = z at *
        obtain ⟨z0, z1, z2, z3, z4⟩ := z
        simp only [tkA, tkC] at *
        go_wp2_with (at_builtin; refine wpList_append_lies _ rfl (.tmp 22) (.tmp 28) 23 rfl w1.heap.size 27 i0 (.agg #[.int .i64 0, .int .i64 0, .int .i64 0, .int .i64 0, .int .i64 0]) 5 40 Try.underlying23 hi hz0 hz1 hz2 rfl (by decide) _ (lateTo now L k).length (tkCs (lateTo now L k)) rfl (World.ownsRow.alloc O.out _) ⟨wr.heap.size, 0, none⟩ 1 1 [.int .i64 z0, .int .i64 z1, .int .i64 z2, .int .i64 z3, .int .i64 z4] rfl rfl (NW.out _) OC.out (by decide) (by unfold maxLen; omega) (by omega) (by simp; omega) _ rfl ?_; intro g1 cap1 w5 hown1 hgrow1 hat1 hlt1)
        have ho : OwnT w5 w1.heap.size _ (lateTo now L k ++ [(⟨z0, z1, z2, z3, z4⟩ : Tk)]) := OwnT.add hown1
        have b5 : Below w1.heap.size w1 w5 := (P.out.alloc P.out.size _).grown hgrow1 (by simp; omega) (fun q e => (O.out.lt q e).1)
        have R : Hd (_ ∧ _) := ⟨ho, b5⟩
        clear hown1 hgrow1 hat1 ho b5 d0 d1 d2 d3 d4 c0 c1
        go_wp2
        go_roundw
        case rel => exact ⟨k + 1, by omega, by rw [E1.out]; exact R.out.1, by go_num, R.out.2⟩
        case measure => simp [intOf]; omega
      · have E1 : Hd (lateTo now L (k + 1) = lateTo now L k) := ⟨lateTo_no u⟩
        generalize hT : gt L k = z at *
        obtain ⟨z0, z1, z2, z3, z4⟩ := z
        simp only at *
        go_wp2
        go_roundw
        case rel => exact ⟨k + 1, by omega, by rw [E1.out]; exact O.out, by go_num, P.out⟩
        case measure => simp [intOf]; omega
    · obtain rfl : k = n := by omega
      have R : Hd (_ ∧ _) := ⟨hv, p3⟩
      clear hv p3
      go_wp2
      go_ret
      exact ⟨_, rfl, OwnT.low R.out.1 H.out.2.1.size, H.out.2.1.trans (R.out.2.mono H.out.2.1.size)⟩

set_option maxRecDepth 20000 in
set_option maxHeartbeats 1000000 in
theorem awake_ok (w : World) : Calls Try.prog 8 #[] w fun e w' => e = .returned (.bool true) ∧ Below w.heap.size w w' := by
  have J := join_ok 5 9 none 0 [] ⟨1, 2, 0, 0, 0⟩ w ⟨Nat.le_refl _, fun _ => rfl, TkR.nil _ _⟩ (by simp)
  simp only [List.length_nil, jnS_nil, List.nil_append] at J
  go_enter Try.func8, Try.ntmps8
  go_wp2_with fail
  go_at_call 17
  refine J.mono ?_
  rintro e w1 ⟨⟨v, rfl, a, c, rfl, r1⟩, b1⟩
  simp only [List.length_cons, List.length_nil, Nat.zero_add] at r1 ⊢
  rw [show max (5 : Int) 9 = 9 from rfl]
  have F := finish_ok 9 a c [⟨1, 2, 0, 0, 0⟩] 10 (w1.alloc (.cells #[.int .u64 9, .slice a 1 c] 25)) ⟨by decide, by decide⟩ (r1.carry (alloc_below _ _)).2.2 (by simp)
  rw [show finI 9 [(⟨1, 2, 0, 0, 0⟩ : Tk)] 10 = 29 from by decide] at F
  simp only [List.length_cons, List.length_nil, Nat.zero_add] at F
  have N1 : Blk (w1.alloc (.cells #[.int .u64 9, .slice a 1 c] 25)) w1.heap.size 25 (lnA 9 (.slice a 1 c)) := Blk.new _ _ _
  have HB : Hd (Below w.heap.size w (w1.alloc (.cells #[.int .u64 9, .slice a 1 c] 25)) ∧ Blk (w1.alloc (.cells #[.int .u64 9, .slice a 1 c] 25)) w1.heap.size 25 (lnA 9 (.slice a 1 c))) := ⟨b1.alloc b1.size _, N1⟩
  clear b1 r1 J N1
  obtain ⟨w2, hw2⟩ : ∃ w2, w2 = w1.alloc (.cells #[.int .u64 9, .slice a 1 c] 25) := ⟨_, rfl⟩
  rw [← hw2] at F HB
  obtain ⟨⟨c0, c1⟩, -⟩ := HB.out.2.lane
  go_upto_region 2 with fail
  rw [← hw2]
  clear hw2
  go_wp2_with fail
  go_at_call 14
  refine F.mono ?_
  rintro e w3 ⟨rfl, b3⟩
  clear c0 c1 F
  obtain ⟨⟨c0, c1⟩, -⟩ := (HB.out.2.kept (Kept.of_below b3 (fun _ => False)) id).lane
  have B3 : Hd (Below w.heap.size w w3) := ⟨HB.out.1.trans (b3.mono HB.out.1.size)⟩
  clear b3
  simp only [hasI, List.isEmpty_cons, Bool.not_false]
  go_wp2_with fail
  go_ret
  exact ⟨rfl, B3.out⟩
end Go.Proofs.Ytbnjjckcnlfapaa
