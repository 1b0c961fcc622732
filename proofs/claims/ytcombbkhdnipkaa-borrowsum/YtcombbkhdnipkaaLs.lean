/-
  The walk of 'BorrowSum'. Conditions: the levels and the demands lie in memory, and are no more than memory holds.
-/
import Derived.Test.YtcombbkhdnipkaaDw
import Derived.Test.YtcombbkhdnipkaaBMth
namespace Go.Proofs.Ytcombbkhdnipkaa
open Go.RowKit

theorem sum_same (f : Nat → Int) : ∀ n, Bo.sumTo f n = sumTo f n
  | 0 => rfl
  | n + 1 => by
    have := sum_same f n
    simp only [Bo.sumTo, sumTo]
    omega
section
variable {total : Int} {n : Nat} {l : Nat → Lv}
theorem bounds_fit (hf : Bo.Fits total n (shr l)) (hi : ∀ k, k < n → InR (l k)) {d : Nat → Dm} (hd : ∀ k, 0 ≤ sms d k ∧ sms d k ≤ 1048576) : Fits total n (mns (Bo.bds total n l)) (mxs (Bo.bds total n l)) (sms d) := by
  have hl := hf.lo
  have hh := hf.hi
  refine ⟨hl, hh, hf.len, fun k hk => ?_, ?_, ?_⟩
  · have o := Bo.bds_ord hf hi hk
    have o1 := o.lo
    have o2 := o.le
    have o3 := o.up
    have o4 := o.hi
    have o5 := hd k
    unfold mns mxs
    omega
  · have := Bo.mnS_all hf hi
    unfold Bo.mnS at this
    rw [sum_same] at this
    exact this
  · have := Bo.mxS_all hf hi
    unfold Bo.mxS at this
    rw [sum_same] at this
    exact this
theorem noms_all (hf : Bo.Fits total n (shr l)) : sumTo (noms (Bo.bds total n l)) n = total := by
  have := Bo.nomS_all (l := l) hf
  unfold Bo.nomS at this
  rw [sum_same] at this
  exact this
end

theorem two_new (w : World) (x y : Int) : ∀ j u, ([.int .i64 x, .int .i64 y] : List Value)[j]? = some u → (w.alloc (.cells #[.int .i64 x, .int .i64 y] 37)).cell? ((⟨w.heap.size, 0, none⟩ : Addr).add j) = some u :=
  World.news_of_block (Blk.new w 37 #[.int .i64 x, .int .i64 y])
theorem two_cell (x y : Int) : ∀ u ∈ ([.int .i64 x, .int .i64 y] : List Value), u.oneCell' = true := by
  intro u hu
  simp at hu
  rcases hu with rfl | rfl <;> rfl
theorem owns_kept {S : Nat → Prop} {w w' : World} {base e size n : Nat} {v : Value} {xs : List Value} (h : w.ownsRow base e size v n xs) (k : Kept S w w') (hS : ∀ g, g < w.heap.size → ¬ S g) : w'.ownsRow base e size v n xs := by
  obtain ⟨h0, h1⟩ := id h
  rcases h1 with h1 | ⟨g, cap, cur, rfl, hb, hg, r⟩
  · exact ⟨h0, .inl h1⟩
  · have hlt := (h.lt g rfl).2
    exact ⟨h0, .inr ⟨g, cap, cur, rfl, hb, (k.block g hlt (hS g hlt)).trans hg, r⟩⟩
theorem owns_put {w : World} {base e size n g : Nat} {v : Value} {xs : List Value} (h : w.ownsRow base e size v n xs) (hne : ∀ q, v.ownBlock = some q → q ≠ g) (i : Nat) (x : Value) : (w.setCell ⟨g, i, none⟩ x).ownsRow base e size v n xs := by
  obtain ⟨h0, h1⟩ := id h
  rcases h1 with h1 | ⟨q, cap, cur, rfl, hb, hg, r⟩
  · exact ⟨h0, .inl h1⟩
  · exact ⟨h0, .inr ⟨q, cap, cur, rfl, hb, (Below.heap_setCell _ _ _ _ (hne q rfl)).trans hg, r⟩⟩
/-- The demands that are asked for. -/
def wD (m : Nat) (d : Nat → Dm) : Nat → Dm := fun k => ⟨0, if k < m then min (max (d k).smo 0) 1048576 else 0⟩
theorem wD_in (m : Nat) (d : Nat → Dm) : ∀ k, 0 ≤ sms (wD m d) k ∧ sms (wD m d) k ≤ 1048576 := fun k => by
  unfold sms wD
  simp only
  split <;> omega

section
variable {total : Int} {n : Nat} {l : Nat → Lv} {u : Nat → Int}
/-- What limits of bounds are. -/
structure Lim (total : Int) (n : Nat) (l : Nat → Lv) (P : Nat → Int) : Prop where
  lo : ∀ k, k < n → mns (Bo.bds total n l) k ≤ P k
  up : ∀ k, k < n → P k ≤ mxs (Bo.bds total n l) k
  shut : ∀ k, k < n → (l k).lend = 0 → (l k).borrow = 0 → P k = noms (Bo.bds total n l) k
  num : ∀ k, k < n → (0 ≤ noms (Bo.bds total n l) k ∧ noms (Bo.bds total n l) k ≤ 4096) ∧ 0 ≤ P k ∧ P k ≤ 4096
  sum : sumTo P n = total
  same : sumTo (borF (noms (Bo.bds total n l)) P) n = sumTo (lentF (noms (Bo.bds total n l)) P) n
theorem lim_of (hf : Bo.Fits total n (shr l)) (hi : ∀ k, k < n → InR (l k)) (h : Fits total n (mns (Bo.bds total n l)) (mxs (Bo.bds total n l)) u) :
    Lim total n l (part total n (mns (Bo.bds total n l)) (mxs (Bo.bds total n l)) u) := by
  have d := h.last
  refine ⟨fun k hk => (d.between k hk).1, fun k hk => (d.between k hk).2, fun k hk e1 e2 => ?_, fun k hk => ?_, h.sum, ?_⟩
  · have b := d.between k hk
    have s := Bo.bd_shut (total := total) (hi k hk) (Bo.part_le hf hk)
    have s1 := s.1 e1
    have s2 := s.2.2.1 e2
    have b1 : (Bo.bds total n l k).mn ≤ part total n (mns (Bo.bds total n l)) (mxs (Bo.bds total n l)) u k := b.1
    have b2 : part total n (mns (Bo.bds total n l)) (mxs (Bo.bds total n l)) u k ≤ (Bo.bds total n l k).mx := b.2
    have s3 : (Bo.bds total n l k).mn = (Bo.bds total n l k).nom := s1
    have s4 : (Bo.bds total n l k).mx = (Bo.bds total n l k).nom := s2
    show _ = (Bo.bds total n l k).nom
    omega
  · have b := d.between k hk
    have o := Bo.bds_ord hf hi hk
    have o1 := o.lo
    have o2 := o.le
    have o3 := o.up
    have o4 := o.hi
    have hh := hf.hi
    have b1 : (Bo.bds total n l k).mn ≤ part total n (mns (Bo.bds total n l)) (mxs (Bo.bds total n l)) u k := b.1
    have b2 : part total n (mns (Bo.bds total n l)) (mxs (Bo.bds total n l)) u k ≤ (Bo.bds total n l k).mx := b.2
    show (0 ≤ (Bo.bds total n l k).nom ∧ (Bo.bds total n l k).nom ≤ 4096) ∧ _
    omega
  · have e := lent_eq (noms (Bo.bds total n l)) (part total n (mns (Bo.bds total n l)) (mxs (Bo.bds total n l)) u) n
    rw [noms_all hf, h.sum] at e
    omega
end

set_option maxRecDepth 20000 in
set_option maxHeartbeats 8000000 in
theorem sum_law (total : Int) (a b : Option Addr) (n m c1 c2 : Nat) (l : Nat → Lv) (d : Nat → Dm) (w : World) (hr : LvR w a n l) (hn : n ≤ 17592186044416) (hd : DmR w b m d) :
    Calls Try.prog 4 #[.int .i64 total, .slice a n c1, .slice b m c2] w fun e w' => e = .returned (.bool true) ∧ Below w.heap.size w w' := by
  obtain ⟨i0, hi0, hz0, hz1, hz2⟩ := info_parts Try.info37
  have I := awake_ok w
  have HR : Hd (∀ W, Below w.heap.size w W → Calls Try.prog 11 #[.int .i64 total, .slice a n c1] W fun e w' => Bo.BRes W total n l e w') := ⟨fun W q => Bo.bounds_ok total a n c1 l W (hr.carry q) hn⟩
  have HD : Hd (DmR w b m d) := ⟨hd⟩
  have HV : Hd (LvR w a n l) := ⟨hr⟩
  clear hr hd
  go_enter Try.func4, Try.ntmps4
  go_wp2_with fail
  go_at_call 7
  refine I.mono ?_
  rintro e w1 ⟨rfl, b1⟩
  clear I
  have J := HR.out w1 b1
  clear HR
  go_wp2_with fail
  go_at_call 11
  refine J.mono ?_
  rintro e w2 hres
  clear J
  have B2 : Hd (Below w.heap.size w w2) := ⟨b1.trans (hres.bel.mono b1.size)⟩
  clear b1
  rcases hres.ex with ⟨hf, hi, ac, c, rfl, hb⟩ | ⟨-, -, rfl⟩ | ⟨hz, rfl⟩
  · have HF : Hd (Bo.Fits total n (shr l)) := ⟨hf⟩
    have HI : Hd (∀ k, k < n → InR (l k)) := ⟨hi⟩
    have HB : Hd (BdR w2 ac n (Bo.bds total n l)) := ⟨hb⟩
    have hlen := hf.len
    have hpos := hf.pos
    clear hres hf hi hb
    go_wp2_with fail
    go_loopw [9, 10] (fun v i wr => ∃ k : Nat, k ≤ n ∧ i = .int .i64 k ∧ wr.ownsRow w2.heap.size 37 2 v k (dmCs (wD m d) k) ∧ Below w2.heap.size w2 wr) (fun _ i _ => n - (intOf i).toNat)
    case atStart => exact ⟨0, Nat.zero_le _, rfl, World.ownsRow_nil _ _ _ _, Below.refl _ _⟩
    case round =>
      obtain ⟨k, hk, rfl, hv, p3⟩ := hrel
      by_cases hlt : k < n
      · obtain ⟨wa, hwa⟩ : ∃ wa, wa = wr.alloc (.cells #[.int .i64 0, .int .i64 0] 37) := ⟨_, rfl⟩
        have NA : Blk wa wr.heap.size 37 #[.int .i64 0, .int .i64 0] := by rw [hwa]; exact Blk.new _ _ _
        have BA : Below wr.heap.size wr wa := by rw [hwa]; exact alloc_below _ _
        have hva := owns_kept hv (Kept.of_below BA (fun j => wr.heap.size ≤ j)) (fun g h1 h2 => by omega)
        have pa : Below w2.heap.size w2 wa := p3.trans (BA.mono p3.size)
        have hg2 : w2.heap.size ≤ wr.heap.size := p3.size
        have hga := BA.size
        by_cases hm : k < m
        · obtain ⟨sb, off, rfl, hsb, hc⟩ := HD.out (by omega)
          have d1 : wa.cell? ⟨sb, off + k * 2 + 1, none⟩ = some (.int .i64 (d k).smo) := ((B2.out.trans (pa.mono B2.out.size)).cell (p := ⟨sb, off + k * 2 + 1, none⟩) hsb).trans (hc k hm).2
          have E1 : Hd (dmCs (wD m d) k ++ [.int .i64 0, .int .i64 (min (max (d k).smo 0) 1048576)] = dmCs (wD m d) (k + 1)) := ⟨by
            have := dmCs_succ (d := wD m d) (m := k)
            have e2 : (wD m d k).smo = min (max (d k).smo 0) 1048576 := by unfold wD; simp only; rw [if_pos hm]
            rw [e2] at this
            exact this⟩
          have n1 := NA.cellv (v := .int .i64 0) 1 rfl
          have f1 := NA.frozen 1
          have NB := NA.set 1 (.int .i64 (min (max (d k).smo 0) 1048576))
          have bb := pa.setCell (p := ⟨wr.heap.size, 1, none⟩) hg2 (.int .i64 (min (max (d k).smo 0) 1048576))
          obtain ⟨wb, hwb⟩ : ∃ wb, wb = wa.setCell ⟨wr.heap.size, 1, none⟩ (.int .i64 (min (max (d k).smo 0) 1048576)) := ⟨_, rfl⟩
          have hvb := owns_put hva (g := wr.heap.size) (fun q e => by have := (hv.lt q e).2; omega) 1 (.int .i64 (min (max (d k).smo 0) 1048576))
          rw [← hwb] at hvb
          rw [← hwb] at NB bb
          have m0 := NB.cellv (v := .int .i64 0) 0 rfl
          have m1 := NB.cellv (v := .int .i64 (min (max (d k).smo 0) 1048576)) 1 rfl
          clear hc hva NA BA NB hv p3 pa
          have hszb := bb.size
          generalize (d k).smo = y at *
          have j1 : (k : Int) < (m : Int) := by omega
          go_upto_region 12 with fail
          rw [← hwa]
          clear hwa
          generalize wr.heap.size = g at *
          go_upto_region 13 with fail
          rw [← hwb]
          clear hwb n1 f1 d1
          go_wp2_with (at_builtin; refine wpList_append_lies _ rfl (.tmp 50) (.tmp 52) 23 rfl w2.heap.size 37 i0 (.agg #[.int .i64 0, .int .i64 0]) 2 16 Try.underlying23 hi0 hz0 hz1 hz2 rfl (by decide) _ _ _ rfl (hvb.alloc _) ⟨wb.heap.size, 0, none⟩ 1 1 [.int .i64 0, .int .i64 (min (max y 0) 1048576)] rfl rfl (two_new _ _ _) (two_cell _ _) (by decide) (by unfold maxLen; omega) (by omega) (by simp; omega) _ rfl ?_; intro g1 cap1 w4 hown4 hgrow4 hat4 hlt4)
          have b4 : Below w2.heap.size w2 w4 := (bb.alloc bb.size _).grown hgrow4 (by simp; omega) (fun q e => (hvb.lt q e).1)
          rw [E1.out] at hown4
          have R : Hd (_ ∧ _) := ⟨hown4, b4⟩
          clear hvb hown4 hgrow4 hat4 b4 bb E1
          go_wp2_with fail
          go_roundw
          case rel => exact ⟨k + 1, by omega, by go_num, R.out⟩
          case measure => simp [intOf]; omega
        · have E1 : Hd (dmCs (wD m d) k ++ [.int .i64 0, .int .i64 0] = dmCs (wD m d) (k + 1)) := ⟨by
            have := dmCs_succ (d := wD m d) (m := k)
            have e2 : (wD m d k).smo = 0 := by unfold wD; simp only; rw [if_neg hm]
            rw [e2] at this
            exact this⟩
          have m0 := NA.cellv (v := .int .i64 0) 0 rfl
          have m1 := NA.cellv (v := .int .i64 0) 1 rfl
          have hvb := hva
          have bb := pa
          clear hva NA BA hv p3 pa
          have hszb := bb.size
          have j1 : ¬ (k : Int) < (m : Int) := by omega
          go_upto_region 11 with fail
          rw [← hwa]
          clear hwa
          generalize wr.heap.size = g at *
          obtain ⟨wb, hwb⟩ : ∃ wb, wb = wa := ⟨_, rfl⟩
          subst hwb
          go_wp2_with (at_builtin; refine wpList_append_lies _ rfl (.tmp 50) (.tmp 52) 23 rfl w2.heap.size 37 i0 (.agg #[.int .i64 0, .int .i64 0]) 2 16 Try.underlying23 hi0 hz0 hz1 hz2 rfl (by decide) _ _ _ rfl (hvb.alloc _) ⟨wb.heap.size, 0, none⟩ 1 1 [.int .i64 0, .int .i64 0] rfl rfl (two_new _ _ _) (two_cell _ _) (by decide) (by unfold maxLen; omega) (by omega) (by simp; omega) _ rfl ?_; intro g1 cap1 w4 hown4 hgrow4 hat4 hlt4)
          have b4 : Below w2.heap.size w2 w4 := (bb.alloc bb.size _).grown hgrow4 (by simp; omega) (fun q e => (hvb.lt q e).1)
          rw [E1.out] at hown4
          have R : Hd (_ ∧ _) := ⟨hown4, b4⟩
          clear hvb hown4 hgrow4 hat4 b4 bb E1
          go_wp2_with fail
          go_roundw
          case rel => exact ⟨k + 1, by omega, by go_num, R.out⟩
          case measure => simp [intOf]; omega
      · obtain rfl : k = n := by omega
        obtain ⟨a3, k3, rfl, r3⟩ := dm_owned hv
        have hfit := bounds_fit HF.out HI.out (wD_in m d)
        have L := limits_ok total ac a3 k k c k3 (Bo.bds total k l) (wD m d) wr (HB.out.carry p3) r3 (by omega) (by omega)
        have B3 : Hd (Below w.heap.size w wr) := ⟨B2.out.trans (p3.mono B2.out.size)⟩
        have HB3 : Hd (BdR wr ac k (Bo.bds total k l)) := ⟨HB.out.carry p3⟩
        have HFit : Hd (Fits total k (mns (Bo.bds total k l)) (mxs (Bo.bds total k l)) (sms (wD m d))) := ⟨hfit⟩
        clear hv r3 p3 HB B2 HD hfit hk hlt
        go_wp2_with fail
        go_at_call 8
        refine L.mono ?_
        rintro e w5 h5
        obtain ⟨a5, c5, rfl, x5⟩ := h5.yes HFit.out rfl
        have hlim := lim_of HF.out HI.out HFit.out
        generalize part total k (mns (Bo.bds total k l)) (mxs (Bo.bds total k l)) (sms (wD m d)) = P5 at *
        have HLim : Hd (Lim total k l P5) := ⟨hlim⟩
        have B5 : Hd (Below w.heap.size w w5) := ⟨B3.out.trans (h5.bel.mono B3.out.size)⟩
        have LE := lent_ok ac a5 k k c c5 (Bo.bds total k l) P5 w5 (HB3.out.carry h5.bel) x5 (by omega) (by omega) (fun j hj => hlim.num j (by omega))
        rw [Nat.min_self, hlim.same] at LE
        obtain ⟨q1, o1, rfl, hq1, hc1⟩ := (HB3.out.carry h5.bel) hpos
        obtain ⟨q2, o2, rfl, hq2, hc2⟩ := x5 hpos
        obtain ⟨q3, o3, rfl, hq3, hc3⟩ := (HV.out.carry B5.out) hpos
        have HC : Hd (∀ W, Below w5.heap.size w5 W → ∀ j, j < k → (W.cell? ⟨q1, o1 + j * 3, none⟩ = some (.int .i64 (noms (Bo.bds total k l) j)) ∧ W.cell? ⟨q1, o1 + j * 3 + 1, none⟩ = some (.int .i64 (mns (Bo.bds total k l) j)) ∧ W.cell? ⟨q1, o1 + j * 3 + 2, none⟩ = some (.int .i64 (mxs (Bo.bds total k l) j))) ∧ W.cell? ⟨q2, o2 + j, none⟩ = some (.int .i64 (P5 j)) ∧ W.cell? ⟨q3, o3 + j * 10 + 3, none⟩ = some (.int .i64 (l j).lend) ∧ W.cell? ⟨q3, o3 + j * 10 + 4, none⟩ = some (.int .i64 (l j).borrow)) := ⟨fun W q j hj => ⟨⟨(q.cell (p := ⟨q1, o1 + j * 3, none⟩) hq1).trans (hc1 j hj).1, (q.cell (p := ⟨q1, o1 + j * 3 + 1, none⟩) hq1).trans (hc1 j hj).2.1, (q.cell (p := ⟨q1, o1 + j * 3 + 2, none⟩) hq1).trans (hc1 j hj).2.2⟩, (q.cell (p := ⟨q2, o2 + j, none⟩) hq2).trans (hc2 j hj), (q.cell (p := ⟨q3, o3 + j * 10 + 3, none⟩) hq3).trans (hc3 j hj 3 (by decide)), (q.cell (p := ⟨q3, o3 + j * 10 + 4, none⟩) hq3).trans (hc3 j hj 4 (by decide))⟩⟩
        have HLE : Hd (∀ W, Below w5.heap.size w5 W → Calls Try.prog 12 #[.slice (some ⟨q1, o1, none⟩) k c, .slice (some ⟨q2, o2, none⟩) k c5] W fun e w' => e = .returned (.tuple #[.int .i64 (sumTo (lentF (noms (Bo.bds total k l)) P5) k), .int .i64 (sumTo (lentF (noms (Bo.bds total k l)) P5) k)]) ∧ Below W.heap.size W w') := ⟨fun W q => by
          have LE := lent_ok (some ⟨q1, o1, none⟩) (some ⟨q2, o2, none⟩) k k c c5 (Bo.bds total k l) P5 W ((HB3.out.carry h5.bel).carry q) (x5.carry q) (by omega) (by omega) (fun j hj => HLim.out.num j (by omega))
          rw [Nat.min_self, HLim.out.same] at LE
          exact LE⟩
        clear h5 x5 hlim LE hc1 hc2 hc3 hq1 hq2 hq3 HB3 B3 HFit HF HI HV L
        obtain ⟨n, hkn⟩ : ∃ n, n = k := ⟨_, rfl⟩
        subst hkn
        go_wp2_with fail
        go_loopw [14, 15] (fun s i wr => ∃ k : Nat, k ≤ n ∧ i = .int .i64 k ∧ s = .int .i64 (sumTo P5 k) ∧ Below w5.heap.size w5 wr) (fun _ i _ => n - (intOf i).toNat)
        case atStart => exact ⟨0, Nat.zero_le _, rfl, rfl, Below.refl _ _⟩
        case round =>
          obtain ⟨k, hk, rfl, rfl, p3⟩ := hrel
          have ss := sumTo_le (f := P5) (n := n) (M := 4096) (fun j hj => (HLim.out.num j hj).2) k hk
          obtain ⟨s1, s2⟩ := ss
          by_cases hlt : k < n
          · obtain ⟨⟨d0, d1, d2⟩, d3, d4, d5⟩ := HC.out wr p3 k hlt
            have u1 := HLim.out.lo k hlt
            have u2 := HLim.out.up k hlt
            have u3 := HLim.out.shut k hlt
            obtain ⟨-, u4, u5⟩ := HLim.out.num k hlt
            have e1 : Hd (sumTo P5 (k + 1) = sumTo P5 k + P5 k) := ⟨rfl⟩
            have P : Hd (Below w5.heap.size w5 wr) := ⟨p3⟩
            have j1 : (k : Int) < (n : Int) := by omega
            clear p3
            generalize noms (Bo.bds total n l) k = z0 at *
            generalize mns (Bo.bds total n l) k = z1 at *
            generalize mxs (Bo.bds total n l) k = z2 at *
            generalize P5 k = x at *
            generalize (l k).lend = yl at *
            generalize (l k).borrow = yb at *
            generalize sumTo P5 k = s at *
            have g1 : decide (x < z1) = false := decide_eq_false (by omega)
            have g2 : decide (z2 < x) = false := decide_eq_false (by omega)
            by_cases h1 : yl = 0
            · by_cases h2 : yb = 0
              · have h3 := u3 h1 h2
                subst h1 h2 h3
                clear u3
                go_upto_region 21 with fail
                go_quiet (fail)
                go_wp2_with fail
                go_roundw
                case rel => exact ⟨k + 1, by omega, by go_num, by rw [e1.out], ⟨P.out.os, P.out.tape, P.out.output, P.out.size, P.out.block⟩⟩
                case measure => simp [intOf]; omega
              · have g4 : (yb == 0) = false := by simpa using h2
                subst h1
                clear u3 h2
                go_upto_region 21 with fail
                go_quiet (fail)
                go_wp2_with fail
                go_roundw
                case rel => exact ⟨k + 1, by omega, by go_num, by rw [e1.out], ⟨P.out.os, P.out.tape, P.out.output, P.out.size, P.out.block⟩⟩
                case measure => simp [intOf]; omega
            · have g3 : (yl == 0) = false := by simpa using h1
              clear u3 h1
              go_upto_region 21 with fail
              go_quiet (fail)
              go_wp2_with fail
              go_roundw
              case rel => exact ⟨k + 1, by omega, by go_num, by rw [e1.out], ⟨P.out.os, P.out.tape, P.out.output, P.out.size, P.out.block⟩⟩
              case measure => simp [intOf]; omega
          · obtain rfl : k = n := by omega
            have LE := HLE.out wr p3
            have es := HLim.out.sum
            have P : Hd (Below w.heap.size w wr) := ⟨B5.out.trans (p3.mono B5.out.size)⟩
            rw [es]
            clear es HLE HC HLim p3 s1 s2 hlt hk
            generalize sumTo (lentF (noms (Bo.bds total k l)) P5) k = z at *
            go_wp2_with fail
            go_at_call 12
            refine LE.mono ?_
            rintro e w6 ⟨rfl, b6⟩
            go_wp2_with fail
            go_ret
            exact ⟨rfl, P.out.trans (b6.mono P.out.size)⟩
  · clear hres
    go_wp2_with fail
    go_ret
    exact ⟨rfl, B2.out⟩
  · have hz' : (Bo.refI total n (shr l) != 0) = true := by simpa using hz
    clear hres hz
    go_wp2_with fail
    go_ret
    exact ⟨rfl, B2.out⟩
end Go.Proofs.Ytcombbkhdnipkaa
