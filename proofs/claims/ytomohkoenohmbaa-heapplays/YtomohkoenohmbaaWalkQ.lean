/-
  What 'Push' of the reference answers, of a list that lies in memory, and of an id that is not in it. Conditions: as each theorem says them.
-/
import Derived.Test.YtomohkoenohmbaaWalkP
namespace Go.Proofs.Ytomohkoenohmbaa
open Go.RowKit Go.Lib Go.Sort Go.Maps

/-- What is known behind a Push of the reference. -/
def Pushed (w : World) (n : Nat) (L : List (Int × Int)) (x : Int × Int) (v : Value) (w' : World) : Prop :=
  ∃ (k g c : Nat), v = .slice (some ⟨g, 0, none⟩) (n + 1) c ∧ (k ≤ n ∧ (∀ j, j < k → lt (L.getD j (0, 0)) x) ∧ (k < n → ¬ lt (L.getD k (0, 0)) x)) ∧ w.heap.size ≤ g ∧
    Arr w' g (n + 1) c (fun i => (L.take k ++ x :: L.drop k).getD i (0, 0)) ∧ Below w.heap.size w w'

theorem Row.less {w : World} {a : Option Addr} {n m : Nat} {f : Nat → Int × Int} (h : Row w a n f) (hm : m ≤ n) : Row w a m f := by
  intro h0
  obtain ⟨b, off, e, hb, hc⟩ := h (by omega)
  exact ⟨b, off, e, hb, fun k hk => hc k (by omega)⟩
theorem empty_at (w : World) (ad : Addr) (f : Nat → Int × Int) (m : Nat) (hm : m = 0) : ∀ j u, (cellsOf f m)[j]? = some u → w.cell? (ad.add j) = some u := by
  subst hm
  intro j u h
  simp [cellsOf] at h

theorem owned_form {w : World} {base n : Nat} {v : Value} {f : Nat → Int × Int} (h : w.ownsRow base 29 2 v n (cellsOf f n)) (hn : 0 < n) : ∃ g c, v = .slice (some ⟨g, 0, none⟩) n c ∧ base ≤ g ∧ Arr w g n c f := by
  obtain ⟨g, c, rfl, hb, _⟩ := h.form hn
  exact ⟨g, c, rfl, hb, Arr.of_owns h⟩

set_option maxRecDepth 20000 in
set_option maxHeartbeats 4000000 in
theorem rpush_some {S : Nat → Prop} {w : World} {b off n cap : Nat} {L : List (Int × Int)} (R : RL S w (some ⟨b, off, none⟩) n cap L) (hn : n < 4096) (x : Int × Int) (hno : ∀ k, k < n → (L.getD k (0, 0)).2 ≠ x.2) :
    Calls Try.prog 10 #[.slice (some ⟨b, off, none⟩) n cap, vI x] w fun e w' => ∃ v, e = .returned (.tuple #[v, .int .i64 0]) ∧ Pushed w n L x v w' := by
  obtain ⟨i0, hi, hz0, hz1, hz2⟩ := info_parts Try.info29
  obtain ⟨w1, hw1⟩ : ∃ w1, w1 = w.alloc (.cells #[.int .u64 x.1, .int .i64 x.2] 29) := ⟨_, rfl⟩
  have b1 : Below w.heap.size w w1 := hw1 ▸ (Below.refl _ _).alloc (Nat.le_refl _) _
  have bx0 : w1.cell? ⟨w.heap.size, 0, none⟩ = some (.int .u64 x.1) := by rw [hw1]; simp [go_sem]
  have bx1 : w1.cell? ⟨w.heap.size, 1, none⟩ = some (.int .i64 x.2) := by rw [hw1]; simp [go_sem]
  have bl : w.heap.size < w1.heap.size := by rw [hw1]; simp
  have R1 := R.below b1
  have hle := R.le
  have hroom := R.room
  have hlen := R.len
  have F := rfind_miss (some ⟨b, off, none⟩) n cap _ x.2 w1 R1.toRow (by omega) hno
  obtain ⟨B, hB⟩ : ∃ B, B = w.heap.size := ⟨_, rfl⟩
  have hn4 : ¬ (4096 : Int) ≤ (n : Int) := by omega
  unfold vI
  go_enter Try.func10, Try.ntmps10
  go_wp2_with fail
  rw [← hw1]
  rw [← hB] at bx0 bx1 bl ⊢
  have hBw : w.heap.size ≤ B := by omega
  clear hw1 hB
  go_at_call 18
  refine F.mono ?_
  rintro e w' ⟨rfl, hw⟩
  obtain rfl := hw.symm
  clear F hno R
  go_wp2_with fail
  go_loopw [6] (fun v wr => ∃ k : Nat, k ≤ n ∧ v = .int .i64 k ∧ (∀ j, j < k → lt (L.getD j (0, 0)) x) ∧ Below w1.heap.size w1 wr) (fun v _ => n - (intOf v).toNat)
  case atStart => exact ⟨0, by omega, rfl, fun j h => by omega, Below.refl _ _⟩
  case round =>
    obtain ⟨k, hk, rfl, hk1, bk⟩ := hrel
    have y0 := (bk.cell (p := ⟨B, 0, none⟩) bl).trans bx0
    have y1 := (bk.cell (p := ⟨B, 1, none⟩) bl).trans bx1
    have R2 := R1.below bk
    by_cases hkn : k < n
    · have hkn' : (k : Int) < (n : Int) := by omega
      have G := first_any (L.getD k (0, 0)) x
      obtain ⟨b', off', e, hb', _, hc⟩ := R2.row (by omega)
      cases e
      obtain ⟨c0, c1⟩ := hc k hkn
      clear hc
      by_cases hlt : lt (L.getD k (0, 0)) x
      · rw [ltYes hlt] at G
        have hk1' : ∀ j, j < k + 1 → lt (L.getD j (0, 0)) x := by
          intro j hj
          by_cases c : j = k
          · rw [c]; exact hlt
          · exact hk1 j (by omega)
        unfold vI at G
        generalize L.getD k (0, 0) = z at *
        clear hlt hk1
        go_wp2_with fail
        refine region_tail 10 (by kernel_rfl) ?_
        simp only [List.take_succ_cons, List.take_zero, List.drop_succ_cons, List.drop_zero]
        repeat still_step
        refine wpStill_nil ?_
        go_wp2_with (go_at_call 23; refine (G _).mono ?_; rintro e w3 ⟨rfl, hbel⟩)
        go_roundw
        case rel => exact ⟨k + 1, by omega, by go_num, hk1', bk.trans (show Below w1.heap.size wr w3 from (⟨hbel.os, hbel.tape, hbel.output, hbel.size, hbel.block⟩ : Below wr.heap.size wr w3).mono bk.size)⟩
        case measure => simp [intOf]; omega
      · rw [ltNo hlt] at G
        unfold vI at G
        have hk2 : k < n → ¬ lt (L.getD k (0, 0)) x := fun _ => hlt
        obtain ⟨z, hz⟩ : ∃ z, z = L.getD k (0, 0) := ⟨_, rfl⟩
        rw [← hz] at c0 c1 G
        clear hz hlt
        go_wp2_with fail
        refine region_tail 10 (by kernel_rfl) ?_
        simp only [List.take_succ_cons, List.take_zero, List.drop_succ_cons, List.drop_zero]
        repeat still_step
        refine wpStill_nil ?_
        go_wp2_with fail
        go_at_call 23
        refine (G _).mono ?_
        rintro e w3 ⟨rfl, hbel⟩
        have b3 : Below wr.heap.size wr w3 := ⟨hbel.os, hbel.tape, hbel.output, hbel.size, hbel.block⟩
        have hck : ¬ cap = k := by omega
        clear G c0 c1 y0 y1 hbel
        have R3 := R2.below b3
        have Row3 := R3.toRow
        have bw3 : Below w.heap.size w w3 := (b1.trans (bk.mono b1.size)).trans (b3.mono (Nat.le_trans b1.size bk.size))
        have hBw3 : B < w3.heap.size := Nat.lt_of_lt_of_le bl (Nat.le_trans bk.size b3.size)
        have z0 : w3.cell? ⟨B, 0, none⟩ = some (.int .u64 x.1) := (b3.cell (p := ⟨B, 0, none⟩) (Nat.lt_of_lt_of_le bl bk.size)).trans ((bk.cell (p := ⟨B, 0, none⟩) bl).trans bx0)
        have z1 : w3.cell? ⟨B, 1, none⟩ = some (.int .i64 x.2) := (b3.cell (p := ⟨B, 1, none⟩) (Nat.lt_of_lt_of_le bl bk.size)).trans ((bk.cell (p := ⟨B, 1, none⟩) bl).trans bx1)
        have CA1 := cells_at (Row3.less hk)
        have CO1 := cells_one (fun i => L.getD i (0, 0)) k
        have CL1 := cellsOf_len (fun i => L.getD i (0, 0)) k
        have CO3 := cells_one (fun i => L.getD (k + i) (0, 0)) (n - k)
        have CL3 := cellsOf_len (fun i => L.getD (k + i) (0, 0)) (n - k)
        have CP := cells_put L k n x hk hlen
        have ONE := item_one x
        have NIL := World.ownsRow_nil w3 w3.heap.size 29 2
        have hcm : cap ≤ 9223372036854775807 := by unfold maxLen at hroom; omega
        have hkc : k ≤ cap := by omega
        have hkc' : (k : Int) ≤ (cap : Int) := by omega
        have hkn2 : (k : Int) ≤ (n : Int) := by omega
        clear R1 R2 R3 bx0 bx1
        go_wp2_with (first
          | (at_builtin; refine wpList_append_own _ rfl (.tmp 32) (.tmp 35) 26 rfl w3.heap.size 29 i0 (.agg #[.int .u64 0, .int .i64 0]) 2 16 Try.underlying26 hi hz0 hz1 hz2 rfl (by decide) _ _ _ rfl NIL ⟨b, off, none⟩ k cap (cellsOf (fun i => L.getD i (0, 0)) k) rfl CL1 CA1 CO1 (by unfold maxLen; omega) (by omega) (Nat.le_refl _) ?_; intro v1 wa hown1 hg1 hn1; rw [Nat.zero_add, List.nil_append] at hown1; have ba : Below w3.heap.size w3 wa := (Below.refl _ _).grown hg1 (Nat.le_refl _) (fun q e => (NIL.lt q e).1); have za0 := (ba.cell (p := ⟨B, 0, none⟩) hBw3).trans z0; have za1 := (ba.cell (p := ⟨B, 1, none⟩) hBw3).trans z1; have NEW := item_new wa x; have hown1' := hown1.alloc (.cells #[.int .u64 x.1, .int .i64 x.2] 29); have hsa := ba.size)
          | (at_builtin; refine wpList_append_own _ rfl (.tmp 37) (.tmp 39) 26 rfl w3.heap.size 29 i0 (.agg #[.int .u64 0, .int .i64 0]) 2 16 Try.underlying26 hi hz0 hz1 hz2 rfl (by decide) _ _ _ rfl hown1' ⟨wa.heap.size, 0, none⟩ 1 1 [.int .u64 x.1, .int .i64 x.2] rfl rfl NEW ONE (by unfold maxLen; omega) (by omega) (by simp; omega) ?_; intro v2 wb hown2 hg2 hn2; have bb : Below w3.heap.size w3 wb := (ba.alloc hsa _).grown hg2 (by simp; omega) (fun q e => (hown1.lt q e).1); have hsb := bb.size; have CA3 := part_at (Row3.carry bb) k (n - k) (by omega))
          | (at_builtin; refine wpList_append_own _ rfl (.tmp 41) (.tmp 44) 26 rfl w3.heap.size 29 i0 (.agg #[.int .u64 0, .int .i64 0]) 2 16 Try.underlying26 hi hz0 hz1 hz2 rfl (by decide) _ _ _ rfl hown2 ⟨b, off + k * 2, none⟩ (n - k) (cap - k) (cellsOf (fun i => L.getD (k + i) (0, 0)) (n - k)) rfl CL3 CA3 CO3 (by unfold maxLen; omega) (by omega) hsb ?_; intro v3 wc hown3 hg3 hn3; have bc : Below w3.heap.size w3 wc := bb.grown hg3 hsb (fun q e => (hown2.lt q e).1)))
        go_ret2
        rw [CP, show k + 1 + (n - k) = n + 1 by omega] at hown3
        obtain ⟨g, c, rfl, hg, A⟩ := owned_form hown3 (by omega)
        exact ⟨_, rfl, k, g, c, rfl, ⟨hk, hk1, hk2⟩, Nat.le_trans bw3.size hg, A, bw3.trans (bc.mono bw3.size)⟩
    · obtain rfl : k = n := by omega
      have hk2 : k < k → ¬ lt (L.getD k (0, 0)) x := fun h => by omega
      have hd : decide ((k : Int) < (k : Int)) = false := decide_eq_false (by omega)
      go_wp2_with fail
      go_quiet (fail)
      obtain ⟨w3, hw3⟩ : ∃ w3, w3 = wr.drewN nq := ⟨_, rfl⟩
      have b3 : Below wr.heap.size wr w3 := hw3 ▸ ⟨rfl, rfl, rfl, Nat.le_refl _, fun _ _ => rfl⟩
      rw [← hw3]
      clear y0 y1 hw3
      by_cases hck : cap = k
      · obtain rfl : k = cap := hck.symm
        clear hck
        have R3 := R2.below b3
        have Row3 := R3.toRow
        have bw3 : Below w.heap.size w w3 := (b1.trans (bk.mono b1.size)).trans (b3.mono (Nat.le_trans b1.size bk.size))
        have hBw3 : B < w3.heap.size := Nat.lt_of_lt_of_le bl (Nat.le_trans bk.size b3.size)
        have z0 : w3.cell? ⟨B, 0, none⟩ = some (.int .u64 x.1) := (b3.cell (p := ⟨B, 0, none⟩) (Nat.lt_of_lt_of_le bl bk.size)).trans ((bk.cell (p := ⟨B, 0, none⟩) bl).trans bx0)
        have z1 : w3.cell? ⟨B, 1, none⟩ = some (.int .i64 x.2) := (b3.cell (p := ⟨B, 1, none⟩) (Nat.lt_of_lt_of_le bl bk.size)).trans ((bk.cell (p := ⟨B, 1, none⟩) bl).trans bx1)
        have CA1 := cells_at (Row3.less hk)
        have CO1 := cells_one (fun i => L.getD i (0, 0)) k
        have CL1 := cellsOf_len (fun i => L.getD i (0, 0)) k
        have CO3 := cells_one (fun i => L.getD (k + i) (0, 0)) 0
        have CL3 := cellsOf_len (fun i => L.getD (k + i) (0, 0)) 0
        have CP := cells_put L k k x hk hlen
        rw [Nat.sub_self] at CP
        have ONE := item_one x
        have NIL := World.ownsRow_nil w3 w3.heap.size 29 2
        have hcm : k ≤ 9223372036854775807 := by unfold maxLen at hroom; omega
        have hkc : k ≤ k := by omega
        have hkc' : (k : Int) ≤ (k : Int) := by omega
        have hkn2 : (k : Int) ≤ (k : Int) := by omega
        clear R1 R2 R3 bx0 bx1
        go_wp2_with (first
          | (at_builtin; refine wpList_append_own _ rfl (.tmp 32) (.tmp 35) 26 rfl w3.heap.size 29 i0 (.agg #[.int .u64 0, .int .i64 0]) 2 16 Try.underlying26 hi hz0 hz1 hz2 rfl (by decide) _ _ _ rfl NIL ⟨b, off, none⟩ k k (cellsOf (fun i => L.getD i (0, 0)) k) rfl CL1 CA1 CO1 (by unfold maxLen; omega) (by omega) (Nat.le_refl _) ?_; intro v1 wa hown1 hg1 hn1; rw [Nat.zero_add, List.nil_append] at hown1; have ba : Below w3.heap.size w3 wa := (Below.refl _ _).grown hg1 (Nat.le_refl _) (fun q e => (NIL.lt q e).1); have za0 := (ba.cell (p := ⟨B, 0, none⟩) hBw3).trans z0; have za1 := (ba.cell (p := ⟨B, 1, none⟩) hBw3).trans z1; have NEW := item_new wa x; have hown1' := hown1.alloc (.cells #[.int .u64 x.1, .int .i64 x.2] 29); have hsa := ba.size)
          | (at_builtin; refine wpList_append_own _ rfl (.tmp 37) (.tmp 39) 26 rfl w3.heap.size 29 i0 (.agg #[.int .u64 0, .int .i64 0]) 2 16 Try.underlying26 hi hz0 hz1 hz2 rfl (by decide) _ _ _ rfl hown1' ⟨wa.heap.size, 0, none⟩ 1 1 [.int .u64 x.1, .int .i64 x.2] rfl rfl NEW ONE (by unfold maxLen; omega) (by omega) (by simp; omega) ?_; intro v2 wb hown2 hg2 hn2; have bb : Below w3.heap.size w3 wb := (ba.alloc hsa _).grown hg2 (by simp; omega) (fun q e => (hown1.lt q e).1); have hsb := bb.size; have CA3 := empty_at wb ⟨b, off, none⟩ (fun i => L.getD (k + i) (0, 0)) 0 (by omega))
          | (at_builtin; refine wpList_append_own _ rfl (.tmp 41) (.tmp 44) 26 rfl w3.heap.size 29 i0 (.agg #[.int .u64 0, .int .i64 0]) 2 16 Try.underlying26 hi hz0 hz1 hz2 rfl (by decide) _ _ _ rfl hown2 ⟨b, off, none⟩ 0 0 (cellsOf (fun i => L.getD (k + i) (0, 0)) 0) rfl CL3 CA3 CO3 (by unfold maxLen; omega) (by omega) hsb ?_; intro v3 wc hown3 hg3 hn3; have bc : Below w3.heap.size w3 wc := bb.grown hg3 hsb (fun q e => (hown2.lt q e).1)))
        go_ret2
        rw [CP, Nat.add_zero] at hown3
        obtain ⟨g, c, rfl, hg, A⟩ := owned_form hown3 (by omega)
        exact ⟨_, rfl, k, g, c, rfl, ⟨hk, hk1, hk2⟩, Nat.le_trans bw3.size hg, A, bw3.trans (bc.mono bw3.size)⟩
      · have R3 := R2.below b3
        have Row3 := R3.toRow
        have bw3 : Below w.heap.size w w3 := (b1.trans (bk.mono b1.size)).trans (b3.mono (Nat.le_trans b1.size bk.size))
        have hBw3 : B < w3.heap.size := Nat.lt_of_lt_of_le bl (Nat.le_trans bk.size b3.size)
        have z0 : w3.cell? ⟨B, 0, none⟩ = some (.int .u64 x.1) := (b3.cell (p := ⟨B, 0, none⟩) (Nat.lt_of_lt_of_le bl bk.size)).trans ((bk.cell (p := ⟨B, 0, none⟩) bl).trans bx0)
        have z1 : w3.cell? ⟨B, 1, none⟩ = some (.int .i64 x.2) := (b3.cell (p := ⟨B, 1, none⟩) (Nat.lt_of_lt_of_le bl bk.size)).trans ((bk.cell (p := ⟨B, 1, none⟩) bl).trans bx1)
        have CA1 := cells_at (Row3.less hk)
        have CO1 := cells_one (fun i => L.getD i (0, 0)) k
        have CL1 := cellsOf_len (fun i => L.getD i (0, 0)) k
        have CO3 := cells_one (fun i => L.getD (k + i) (0, 0)) 0
        have CL3 := cellsOf_len (fun i => L.getD (k + i) (0, 0)) 0
        have CP := cells_put L k k x hk hlen
        rw [Nat.sub_self] at CP
        have ONE := item_one x
        have NIL := World.ownsRow_nil w3 w3.heap.size 29 2
        have hcm : cap ≤ 9223372036854775807 := by unfold maxLen at hroom; omega
        have hkc : k ≤ cap := by omega
        have hkc' : (k : Int) ≤ (cap : Int) := by omega
        have hkn2 : (k : Int) ≤ (k : Int) := by omega
        clear R1 R2 R3 bx0 bx1
        go_wp2_with (first
          | (at_builtin; refine wpList_append_own _ rfl (.tmp 32) (.tmp 35) 26 rfl w3.heap.size 29 i0 (.agg #[.int .u64 0, .int .i64 0]) 2 16 Try.underlying26 hi hz0 hz1 hz2 rfl (by decide) _ _ _ rfl NIL ⟨b, off, none⟩ k cap (cellsOf (fun i => L.getD i (0, 0)) k) rfl CL1 CA1 CO1 (by unfold maxLen; omega) (by omega) (Nat.le_refl _) ?_; intro v1 wa hown1 hg1 hn1; rw [Nat.zero_add, List.nil_append] at hown1; have ba : Below w3.heap.size w3 wa := (Below.refl _ _).grown hg1 (Nat.le_refl _) (fun q e => (NIL.lt q e).1); have za0 := (ba.cell (p := ⟨B, 0, none⟩) hBw3).trans z0; have za1 := (ba.cell (p := ⟨B, 1, none⟩) hBw3).trans z1; have NEW := item_new wa x; have hown1' := hown1.alloc (.cells #[.int .u64 x.1, .int .i64 x.2] 29); have hsa := ba.size)
          | (at_builtin; refine wpList_append_own _ rfl (.tmp 37) (.tmp 39) 26 rfl w3.heap.size 29 i0 (.agg #[.int .u64 0, .int .i64 0]) 2 16 Try.underlying26 hi hz0 hz1 hz2 rfl (by decide) _ _ _ rfl hown1' ⟨wa.heap.size, 0, none⟩ 1 1 [.int .u64 x.1, .int .i64 x.2] rfl rfl NEW ONE (by unfold maxLen; omega) (by omega) (by simp; omega) ?_; intro v2 wb hown2 hg2 hn2; have bb : Below w3.heap.size w3 wb := (ba.alloc hsa _).grown hg2 (by simp; omega) (fun q e => (hown1.lt q e).1); have hsb := bb.size; have CA3 := part_at (Row3.carry bb) k 0 (by omega))
          | (at_builtin; refine wpList_append_own _ rfl (.tmp 41) (.tmp 44) 26 rfl w3.heap.size 29 i0 (.agg #[.int .u64 0, .int .i64 0]) 2 16 Try.underlying26 hi hz0 hz1 hz2 rfl (by decide) _ _ _ rfl hown2 ⟨b, off + k * 2, none⟩ 0 (cap - k) (cellsOf (fun i => L.getD (k + i) (0, 0)) 0) rfl CL3 CA3 CO3 (by unfold maxLen; omega) (by omega) hsb ?_; intro v3 wc hown3 hg3 hn3; have bc : Below w3.heap.size w3 wc := bb.grown hg3 hsb (fun q e => (hown2.lt q e).1)))
        go_ret2
        rw [CP, Nat.add_zero] at hown3
        obtain ⟨g, c, rfl, hg, A⟩ := owned_form hown3 (by omega)
        exact ⟨_, rfl, k, g, c, rfl, ⟨hk, hk1, hk2⟩, Nat.le_trans bw3.size hg, A, bw3.trans (bc.mono bw3.size)⟩
end Go.Proofs.Ytomohkoenohmbaa
