/-
  The walk of 'BorrowMore'. Conditions: the lists lie in memory.
-/
import Derived.Test.YtcombbkhdnipkaaDw
namespace Go.Proofs.Ytcombbkhdnipkaa
open Go.RowKit

theorem upd_fits {d : Nat → Dm} {k : Nat} {x : Int} : (∀ j, j ≠ k → sms d j = sms (updD d k x) j) ∧ sms (updD d k x) k = x :=
  ⟨fun j hj => by unfold sms updD; rw [if_neg hj], by unfold sms updD; rw [if_pos rfl]⟩

set_option maxRecDepth 20000 in
set_option maxHeartbeats 4000000 in
theorem more_law (total : Int) (a b : Option Addr) (n m c1 c2 : Nat) (G : Nat → Bd) (d : Nat → Dm) (who more : Int) (w : World) (hb : BdR w a n G) (hd : DmR w b m d) :
    Calls Try.prog 6 #[.int .i64 total, .slice a n c1, .slice b m c2, .int .i64 who, .int .i64 more] w fun e w' => e = .returned (.bool true) ∧ Below w.heap.size w w' := by
  have I := awake_ok w
  by_cases t1 : (64 : Int) < (n : Int)
  · clear hb hd
    go_enter Try.func6, Try.ntmps6
    go_wp2_with (go_at_call 7; refine I.mono ?_; rintro e w1 ⟨rfl, b1⟩)
    go_ret
    exact ⟨rfl, b1⟩
  by_cases t2 : (64 : Int) < (m : Int)
  · clear hb hd
    go_enter Try.func6, Try.ntmps6
    go_wp2_with (go_at_call 7; refine I.mono ?_; rintro e w1 ⟨rfl, b1⟩)
    go_ret
    exact ⟨rfl, b1⟩
  by_cases t3 : who < 0
  · clear hb hd
    go_enter Try.func6, Try.ntmps6
    go_wp2_with (go_at_call 7; refine I.mono ?_; rintro e w1 ⟨rfl, b1⟩)
    go_ret
    exact ⟨rfl, b1⟩
  by_cases t4 : (m : Int) ≤ who
  · clear hb hd
    go_enter Try.func6, Try.ntmps6
    go_wp2_with (go_at_call 7; refine I.mono ?_; rintro e w1 ⟨rfl, b1⟩)
    go_ret
    exact ⟨rfl, b1⟩
  by_cases t5 : more < 0
  · clear hb hd
    go_enter Try.func6, Try.ntmps6
    go_wp2_with (go_at_call 7; refine I.mono ?_; rintro e w1 ⟨rfl, b1⟩)
    go_ret
    exact ⟨rfl, b1⟩
  by_cases t6 : 1048576 < more
  · clear hb hd
    go_enter Try.func6, Try.ntmps6
    go_wp2_with (go_at_call 7; refine I.mono ?_; rintro e w1 ⟨rfl, b1⟩)
    go_ret
    exact ⟨rfl, b1⟩
  obtain ⟨i0, hi, hz0, hz1, hz2⟩ := info_parts Try.info37
  obtain ⟨k, rfl⟩ := Int.eq_ofNat_of_zero_le (show 0 ≤ who by omega)
  have hk : k < m := by omega
  obtain ⟨bx, rfl⟩ : ∃ bx, b = some bx := by
    obtain ⟨q, off, e, -⟩ := hd (by omega)
    exact ⟨_, e⟩
  have HB : Hd (BdR w a n G) := ⟨hb⟩
  have HD : Hd (DmR w (some bx) m d) := ⟨hd⟩
  have L1 : Hd (∀ W, Below w.heap.size w W → Calls Try.prog 8 #[.int .i64 total, .slice a n c1, .slice (some bx) m c2] W fun e w' => LRes W total n m G d e w') := ⟨fun W q => limits_ok total a _ n m c1 c2 G d W (hb.carry q) (hd.carry q) (by omega) (by omega)⟩
  clear hb hd
  go_enter Try.func6, Try.ntmps6
  go_wp2_with fail
  go_at_call 7
  refine I.mono ?_
  rintro e w1 ⟨rfl, b1⟩
  clear I
  have J := L1.out w1 b1
  go_wp2_with fail
  go_at_call 8
  refine J.mono ?_
  rintro e w2 h2
  have B2 : Hd (Below w.heap.size w w2) := ⟨b1.trans (h2.bel.mono b1.size)⟩
  clear J b1 L1
  rcases h2.ex with ⟨hnm, hf, a1, k1, rfl, x1⟩ | ⟨hz, rfl⟩
  · subst hnm
    have HF : Hd (Fits total n (mns G) (mxs G) (sms d)) := ⟨hf⟩
    have X1 : Hd (Row w2 a1 n (part total n (mns G) (mxs G) (sms d))) := ⟨x1⟩
    have HY : Hd (∀ y, y = (d k).smo → part total n (mns G) (mxs G) (sms d) k ≤ part total n (mns G) (mxs G) (sms (updD d k (max y more))) k ∨ ¬ Fits total n (mns G) (mxs G) (sms (updD d k (max y more)))) := ⟨fun y hy => by
      by_cases hf2 : Fits total n (mns G) (mxs G) (sms (updD d k (max y more)))
      · exact .inl (part_more HF.out hf2 hk upd_fits.1 (by rw [upd_fits.2, hy]; show (d k).smo ≤ _; omega))
      · exact .inr hf2⟩
    have HY' := HY.out _ rfl
    clear h2 hf x1 HY
    have hown : (w2.alloc (.cells #[] 37)).ownsRow w2.heap.size 37 2 (.slice (some ⟨w2.heap.size, 0, none⟩) 0 0) 0 [] := World.ownsRow_lit (e := 37) w2 #[] 0 (Nat.le_refl _) (by unfold maxLen; omega) rfl
    have DA : Hd (DmR (w2.alloc (.cells #[] 37)) (some bx) n d) := ⟨HD.out.carry (B2.out.trans ((alloc_below w2 (.cells #[] 37)).mono B2.out.size))⟩
    have BA : Hd (Below w2.heap.size w2 (w2.alloc (.cells #[] 37))) := ⟨alloc_below _ _⟩
    go_upto_region 7 with (at_builtin; refine wpList_append_own _ rfl _ _ 23 rfl w2.heap.size 37 i0 (.agg #[.int .i64 0, .int .i64 0]) 2 16 Try.underlying23 hi hz0 hz1 hz2 rfl (by decide) _ _ _ rfl hown _ n c2 (dmCs d n) rfl dmCs_len (dm_at DA.out) dmCs_one (by unfold maxLen; omega) (by omega) (by simp) ?_; intro v' w3 hown' hgrow hnil)
    rw [Nat.zero_add, List.nil_append] at hown'
    have b3 : Below w2.heap.size w2 w3 := BA.out.grown hgrow (by simp) (fun q e => (hown.lt q e).1)
    obtain ⟨g, cg, rfl, hg, O⟩ : ∃ g cg, v' = .slice (some ⟨g, 0, none⟩) n cg ∧ w2.heap.size ≤ g ∧ OwnD w3 g n d := by
      rcases id hown'.2 with ⟨h', h0⟩ | ⟨g', cap', cur, rfl, hg', _⟩
      · omega
      · exact ⟨_, _, rfl, hg', OwnD.owned hown'⟩
    obtain ⟨⟨r0, r1⟩, f1⟩ := O.2 k hk
    have O4 := O.put k (max (d k).smo more) hk
    have b4 := b3.setCell (p := ⟨g, k * 2 + 1, none⟩) hg (.int .i64 (max (d k).smo more))
    have B4 : Hd (Below w.heap.size w (w3.setCell ⟨g, k * 2 + 1, none⟩ (.int .i64 (max (d k).smo more)))) := ⟨B2.out.trans (b4.mono B2.out.size)⟩
    have L2 := limits_ok total a _ n n c1 cg G (updD d k (max (d k).smo more)) _ (HB.out.carry B4.out) O4.read (by omega) (by omega)
    obtain ⟨w4, hw4⟩ : ∃ w4, w4 = w3.setCell ⟨g, k * 2 + 1, none⟩ (.int .i64 (max (d k).smo more)) := ⟨_, rfl⟩
    have B24 : Hd (Below w2.heap.size w2 w4) := ⟨by rw [hw4]; exact b4⟩
    rw [← hw4] at L2 B4
    clear hown hown' hgrow hnil DA BA b3 b4 O O4 hg
    generalize (d k).smo = y at *
    go_upto_region 8 with fail
    rw [← hw4]
    clear hw4 r0 r1 f1
    go_wp2_with fail
    go_at_call 8
    refine L2.mono ?_
    rintro e w5 h5
    have B5 : Hd (Below w.heap.size w w5) := ⟨B4.out.trans (h5.bel.mono B4.out.size)⟩
    clear L2
    rcases h5.ex with ⟨-, hf2, a2, k2, rfl, x2⟩ | ⟨hz2', rfl⟩
    · have hle : part total n (mns G) (mxs G) (sms d) k ≤ part total n (mns G) (mxs G) (sms (updD d k (max y more))) k := by
        rcases HY' with h | h
        · exact h
        · exact absurd hf2 h
      obtain ⟨q1, p1, rfl, hq1, hc1⟩ := (X1.out.carry (B24.out.trans (h5.bel.mono B24.out.size))) (by omega)
      obtain ⟨q2, p2, rfl, hq2, hc2⟩ := x2 (by omega)
      have d1 := hc1 k hk
      have d2 := hc2 k hk
      clear h5 hf2 hc1 hc2 X1 B24 HY' hq1 hq2 HF HB HD
      generalize part total n (mns G) (mxs G) (sms d) k = z1 at *
      generalize part total n (mns G) (mxs G) (sms (updD d k (max y more))) k = z2 at *
      have gd : decide (z1 ≤ z2) = true := decide_eq_true hle
      have j1 : (k : Int) < (n : Int) := by omega
      go_upto_region 11 with fail
      go_quiet (fail)
      go_wp2_with fail
      go_ret
      exact ⟨rfl, ⟨B5.out.os, B5.out.tape, B5.out.output, B5.out.size, B5.out.block⟩⟩
    · clear h5 X1 B24 HY' HF HB HD
      generalize refI total n n n (mns G) (mxs G) (sms (updD d k (max y more))) = z at *
      have hz3 : (z != 0) = true := by simpa using hz2'
      clear hz2'
      go_wp2_with fail
      go_ret
      exact ⟨rfl, B5.out⟩
  · generalize refI total n n m (mns G) (mxs G) (sms d) = z1 at *
    have hz1' : (z1 != 0) = true := by simpa using hz
    clear h2 hz
    have hown : (w2.alloc (.cells #[] 37)).ownsRow w2.heap.size 37 2 (.slice (some ⟨w2.heap.size, 0, none⟩) 0 0) 0 [] := World.ownsRow_lit (e := 37) w2 #[] 0 (Nat.le_refl _) (by unfold maxLen; omega) rfl
    have DA : Hd (DmR (w2.alloc (.cells #[] 37)) (some bx) m d) := ⟨HD.out.carry (B2.out.trans ((alloc_below w2 (.cells #[] 37)).mono B2.out.size))⟩
    have BA : Hd (Below w2.heap.size w2 (w2.alloc (.cells #[] 37))) := ⟨alloc_below _ _⟩
    go_upto_region 7 with (at_builtin; refine wpList_append_own _ rfl _ _ 23 rfl w2.heap.size 37 i0 (.agg #[.int .i64 0, .int .i64 0]) 2 16 Try.underlying23 hi hz0 hz1 hz2 rfl (by decide) _ _ _ rfl hown _ m c2 (dmCs d m) rfl dmCs_len (dm_at DA.out) dmCs_one (by unfold maxLen; omega) (by omega) (by simp) ?_; intro v' w3 hown' hgrow hnil)
    rw [Nat.zero_add, List.nil_append] at hown'
    have b3 : Below w2.heap.size w2 w3 := BA.out.grown hgrow (by simp) (fun q e => (hown.lt q e).1)
    obtain ⟨g, cg, rfl, hg, O⟩ : ∃ g cg, v' = .slice (some ⟨g, 0, none⟩) m cg ∧ w2.heap.size ≤ g ∧ OwnD w3 g m d := by
      rcases id hown'.2 with ⟨h', h0⟩ | ⟨g', cap', cur, rfl, hg', _⟩
      · omega
      · exact ⟨_, _, rfl, hg', OwnD.owned hown'⟩
    obtain ⟨⟨r0, r1⟩, f1⟩ := O.2 k hk
    have O4 := O.put k (max (d k).smo more) hk
    have b4 := b3.setCell (p := ⟨g, k * 2 + 1, none⟩) hg (.int .i64 (max (d k).smo more))
    have B4 : Hd (Below w.heap.size w (w3.setCell ⟨g, k * 2 + 1, none⟩ (.int .i64 (max (d k).smo more)))) := ⟨B2.out.trans (b4.mono B2.out.size)⟩
    have L2 := limits_ok total a _ n m c1 cg G (updD d k (max (d k).smo more)) _ (HB.out.carry B4.out) O4.read (by omega) (by omega)
    obtain ⟨w4, hw4⟩ : ∃ w4, w4 = w3.setCell ⟨g, k * 2 + 1, none⟩ (.int .i64 (max (d k).smo more)) := ⟨_, rfl⟩
    have B24 : Hd (Below w2.heap.size w2 w4) := ⟨by rw [hw4]; exact b4⟩
    rw [← hw4] at L2 B4
    clear hown hown' hgrow hnil DA BA b3 b4 O O4 hg
    generalize (d k).smo = y at *
    go_upto_region 8 with fail
    rw [← hw4]
    clear hw4 r0 r1 f1
    go_wp2_with fail
    go_at_call 8
    refine L2.mono ?_
    rintro e w5 h5
    have B5 : Hd (Below w.heap.size w w5) := ⟨B4.out.trans (h5.bel.mono B4.out.size)⟩
    clear L2
    rcases h5.ex with ⟨hnm, -, a2, k2, rfl, -⟩ | ⟨hz2', rfl⟩
    · subst hnm
      clear h5 B24 HB HD
      go_wp2_with fail
      go_ret
      exact ⟨rfl, B5.out⟩
    · clear h5 B24 HB HD
      generalize refI total n n m (mns G) (mxs G) (sms (updD d k (max y more))) = z at *
      have hz3 : (z != 0) = true := by simpa using hz2'
      clear hz2'
      go_wp2_with fail
      go_ret
      exact ⟨rfl, B5.out⟩
end Go.Proofs.Ytcombbkhdnipkaa
