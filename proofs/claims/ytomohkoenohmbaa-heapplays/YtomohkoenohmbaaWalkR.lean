/-
  What 'Remove' of the reference answers, of a list that lies in memory. Conditions: as each theorem says them.
-/
import Derived.Test.YtomohkoenohmbaaWalkQ
namespace Go.Proofs.Ytomohkoenohmbaa
open Go.RowKit Go.Lib Go.Sort Go.Maps

theorem rpush_none (w : World) (x : Int × Int) : Calls Try.prog 10 #[.slice none 0 0, vI x] w fun e w' => ∃ v, e = .returned (.tuple #[v, .int .i64 0]) ∧ Pushed w 0 [] x v w' := by
  obtain ⟨i0, hi, hz0, hz1, hz2⟩ := info_parts Try.info29
  obtain ⟨w1, hw1⟩ : ∃ w1, w1 = w.alloc (.cells #[.int .u64 x.1, .int .i64 x.2] 29) := ⟨_, rfl⟩
  have b1 : Below w.heap.size w w1 := hw1 ▸ (Below.refl _ _).alloc (Nat.le_refl _) _
  have bx0 : w1.cell? ⟨w.heap.size, 0, none⟩ = some (.int .u64 x.1) := by rw [hw1]; simp [go_sem]
  have bx1 : w1.cell? ⟨w.heap.size, 1, none⟩ = some (.int .i64 x.2) := by rw [hw1]; simp [go_sem]
  have bl : w.heap.size < w1.heap.size := by rw [hw1]; simp
  have F := rfind_miss none 0 0 (fun _ => (0, 0)) x.2 w1 (fun h => by omega) (by omega) (fun k hk => by omega)
  unfold vI
  go_enter Try.func10, Try.ntmps10
  go_wp2_with fail
  rw [← hw1]
  clear hw1
  go_at_call 18
  refine F.mono ?_
  rintro e w' ⟨rfl, hw⟩
  obtain rfl := hw.symm
  clear F
  go_wp2_with fail
  go_loopw [6] (fun v wr => v = .int .i64 0 ∧ Below w1.heap.size w1 wr) (fun _ _ => 0)
  case atStart => exact ⟨rfl, Below.refl _ _⟩
  case round =>
    obtain ⟨rfl, bk⟩ := hrel
    go_wp2_with fail
    go_quiet (fail)
    obtain ⟨w3, hw3⟩ : ∃ w3, w3 = wr.drewN nq := ⟨_, rfl⟩
    have b3 : Below w1.heap.size w1 w3 := hw3 ▸ ⟨bk.os, bk.tape, bk.output, bk.size, bk.block⟩
    rw [← hw3]
    clear hw3 bk
    have z0 := (b3.cell (p := ⟨w.heap.size, 0, none⟩) bl).trans bx0
    have z1 := (b3.cell (p := ⟨w.heap.size, 1, none⟩) bl).trans bx1
    have NEW := item_new w3 x
    have ONE := item_one x
    have NIL := World.ownsRow_nil w3 w3.heap.size 29 2
    have NIL' := NIL.alloc (.cells #[.int .u64 x.1, .int .i64 x.2] 29)
    go_wp2_with (first
      | (at_builtin; refine wpList_append_own_none rfl (.tmp 32) (.tmp 35) 26 rfl w3.heap.size 29 i0 2 Try.underlying26 hi _ _ _ rfl NIL rfl ?_)
      | (at_builtin; refine wpList_append_own _ rfl (.tmp 37) (.tmp 39) 26 rfl w3.heap.size 29 i0 (.agg #[.int .u64 0, .int .i64 0]) 2 16 Try.underlying26 hi hz0 hz1 hz2 rfl (by decide) _ _ _ rfl NIL' ⟨w3.heap.size, 0, none⟩ 1 1 [.int .u64 x.1, .int .i64 x.2] rfl rfl NEW ONE (by unfold maxLen; omega) (by omega) (by simp) ?_; intro v2 wb hown2 hg2 hn2; have bb : Below w3.heap.size w3 wb := ((Below.refl _ _).alloc (Nat.le_refl _) _).grown hg2 (by simp) (fun q e => (NIL.lt q e).1))
      | (at_builtin; refine wpList_append_own_none rfl (.tmp 41) (.tmp 44) 26 rfl w3.heap.size 29 i0 2 Try.underlying26 hi _ _ _ rfl hown2 rfl ?_))
    go_ret2
    rw [Nat.zero_add, List.nil_append, cells_x] at hown2
    obtain ⟨g, c, rfl, hg, A⟩ := owned_form hown2 (by omega)
    have bw3 : Below w.heap.size w w3 := b1.trans (b3.mono b1.size)
    have A' : Arr wb g 1 c (fun i => (([] : List (Int × Int)).take 0 ++ x :: ([] : List (Int × Int)).drop 0).getD i (0, 0)) := A.congr (fun i hi1 => by
      have e : i = 0 := Nat.lt_one_iff.1 hi1
      subst e
      rfl)
    exact ⟨_, rfl, 0, g, c, rfl, ⟨Nat.le_refl _, fun j hj => absurd hj (Nat.not_lt_zero j), fun h => absurd h (Nat.lt_irrefl 0)⟩, Nat.le_trans bw3.size hg, A', bw3.trans (bb.mono bw3.size)⟩

theorem rremove_miss {S : Nat → Prop} {w : World} {a : Option Addr} {n cap : Nat} {L : List (Int × Int)} (R : RL S w a n cap L) (hn : n ≤ 4096) (id : Int) (hno : ∀ k, k < n → (L.getD k (0, 0)).2 ≠ id) :
    Calls Try.prog 13 #[.slice a n cap, .int .i64 id] w fun e w' => e = .returned (.tuple #[.slice a n cap, .int .i64 6]) ∧ w' = w := by
  have F := rfind_miss a n cap _ id w R.toRow (by omega) hno
  clear R hno
  go_enter Try.func13, Try.ntmps13
  go_wp2_with (go_at_call 18; refine F.mono ?_; rintro e w' ⟨rfl, hw⟩; obtain rfl := hw.symm)
  go_ret2
  exact ⟨rfl, rfl⟩

set_option maxRecDepth 20000 in
set_option maxHeartbeats 2000000 in
theorem rremove_hit {S : Nat → Prop} {w : World} {a : Option Addr} {n cap : Nat} {L : List (Int × Int)} (R : RL S w a n cap L) (hn : n ≤ 4096) (id : Int) (p : Nat) (hp : p < n) (he : (L.getD p (0, 0)).2 = id) (h : ∀ k, k < p → (L.getD k (0, 0)).2 ≠ id) :
    Calls Try.prog 13 #[.slice a n cap, .int .i64 id] w fun e w' => ∃ v, e = .returned (.tuple #[v, .int .i64 0]) ∧
      w'.ownsRow w.heap.size 29 2 v (n - 1) (cellsOf (fun i => (L.take p ++ L.drop (p + 1)).getD i (0, 0)) (n - 1)) ∧ Below w.heap.size w w' := by
  obtain ⟨i0, hi, hz0, hz1, hz2⟩ := info_parts Try.info29
  have F := rfind_hit a n cap _ id w R.toRow (by omega) p hp he h
  obtain ⟨b, off, rfl, hb, _, hc⟩ := R.row (by omega)
  have Row3 := R.toRow
  have hle := R.le
  have hroom := R.room
  have CP := cells_out L p n hp R.len
  have CA1 := cells_at (Row3.less (show p ≤ n by omega))
  have CO1 := cells_one (fun i => L.getD i (0, 0)) p
  have CL1 := cellsOf_len (fun i => L.getD i (0, 0)) p
  have CO3 := cells_one (fun i => L.getD (p + 1 + i) (0, 0)) (n - (p + 1))
  have CL3 := cellsOf_len (fun i => L.getD (p + 1 + i) (0, 0)) (n - (p + 1))
  have NIL := World.ownsRow_nil w w.heap.size 29 2
  have hcm : cap ≤ 9223372036854775807 := by unfold maxLen at hroom; omega
  have hpc' : (p : Int) ≤ (cap : Int) := by omega
  have hpn' : (p : Int) + 1 ≤ (n : Int) := by omega
  have hpc2 : (p : Int) + 1 ≤ (cap : Int) := by omega
  have e1 : ((p : Int) + 1).toNat = p + 1 := by omega
  clear R hc he h
  by_cases hck : cap = p + 1
  · obtain rfl : n = p + 1 := by omega
    subst hck
    rw [Nat.sub_self] at CP CO3 CL3
    go_enter Try.func13, Try.ntmps13
    go_wp2_with (first
      | (go_at_call 18; refine F.mono ?_; rintro e w' ⟨rfl, hw⟩; obtain rfl := hw.symm)
      | (at_builtin; refine wpList_append_own _ rfl (.tmp 14) (.tmp 17) 26 rfl w.heap.size 29 i0 (.agg #[.int .u64 0, .int .i64 0]) 2 16 Try.underlying26 hi hz0 hz1 hz2 rfl (by decide) _ _ _ rfl NIL ⟨b, off, none⟩ p (p + 1) (cellsOf (fun i => L.getD i (0, 0)) p) rfl CL1 CA1 CO1 (by unfold maxLen; omega) (by omega) (Nat.le_refl _) ?_; intro v1 wa hown1 hg1 hn1; rw [Nat.zero_add, List.nil_append] at hown1; have ba : Below w.heap.size w wa := (Below.refl _ _).grown hg1 (Nat.le_refl _) (fun q e => (NIL.lt q e).1); have hsa := ba.size; have CA3 := empty_at wa ⟨b, off, none⟩ (fun i => L.getD (p + 1 + i) (0, 0)) 0 rfl)
      | (at_builtin; refine wpList_append_own _ rfl (.tmp 19) (.tmp 23) 26 rfl w.heap.size 29 i0 (.agg #[.int .u64 0, .int .i64 0]) 2 16 Try.underlying26 hi hz0 hz1 hz2 rfl (by decide) _ _ _ rfl hown1 ⟨b, off, none⟩ 0 0 (cellsOf (fun i => L.getD (p + 1 + i) (0, 0)) 0) rfl CL3 CA3 CO3 (by unfold maxLen; omega) (by omega) hsa ?_; intro v2 wb hown2 hg2 hn2; have bb : Below w.heap.size w wb := ba.grown hg2 hsa (fun q e => (hown1.lt q e).1)))
    go_ret2
    rw [CP] at hown2
    simp only [Nat.add_sub_cancel, Nat.add_zero] at hown2
    exact ⟨_, rfl, hown2, bb⟩
  · clear hroom
    go_enter Try.func13, Try.ntmps13
    go_wp2_with (first
      | (go_at_call 18; refine F.mono ?_; rintro e w' ⟨rfl, hw⟩; obtain rfl := hw.symm)
      | (at_builtin; refine wpList_append_own _ rfl (.tmp 14) (.tmp 17) 26 rfl w.heap.size 29 i0 (.agg #[.int .u64 0, .int .i64 0]) 2 16 Try.underlying26 hi hz0 hz1 hz2 rfl (by decide) _ _ _ rfl NIL ⟨b, off, none⟩ p cap (cellsOf (fun i => L.getD i (0, 0)) p) rfl CL1 CA1 CO1 (by unfold maxLen; omega) (by omega) (Nat.le_refl _) ?_; intro v1 wa hown1 hg1 hn1; rw [Nat.zero_add, List.nil_append] at hown1; have ba : Below w.heap.size w wa := (Below.refl _ _).grown hg1 (Nat.le_refl _) (fun q e => (NIL.lt q e).1); have hsa := ba.size; have CA3 := part_at (Row3.carry ba) (p + 1) (n - (p + 1)) (by omega))
      | (at_builtin; refine wpList_append_own _ rfl (.tmp 19) (.tmp 23) 26 rfl w.heap.size 29 i0 (.agg #[.int .u64 0, .int .i64 0]) 2 16 Try.underlying26 hi hz0 hz1 hz2 rfl (by decide) _ _ _ rfl hown1 ⟨b, off + (p + 1) * 2, none⟩ (n - (p + 1)) (cap - (p + 1)) (cellsOf (fun i => L.getD (p + 1 + i) (0, 0)) (n - (p + 1))) rfl CL3 CA3 CO3 (by unfold maxLen; omega) (by omega) hsa ?_; intro v2 wb hown2 hg2 hn2; have bb : Below w.heap.size w wb := ba.grown hg2 hsa (fun q e => (hown1.lt q e).1)))
    go_ret2
    rw [CP, show p + (n - (p + 1)) = n - 1 by omega] at hown2
    exact ⟨_, rfl, hown2, bb⟩
end Go.Proofs.Ytomohkoenohmbaa
