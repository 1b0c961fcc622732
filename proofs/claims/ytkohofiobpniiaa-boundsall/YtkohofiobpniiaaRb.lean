/-
  What 'Bounds' of the reference answers. Conditions: the levels lie in memory, and are no more than 64.
-/
import Derived.Test.YtkohofiobpniiaaRp
import Derived.Test.YtkohofiobpniiaaOrQ
import Derived.Deep.AppendLies
namespace Go.Proofs.Ytkohofiobpniiaa
open Go.RowKit
set_option maxHeartbeats 1000000 in
theorem rbounds_no (total : Int) (a : Option Addr) (n cap : Nat) (l : Nat → Lv) (w : World) (hr : LvR w a n l) (hn : n ≤ 64) (h : (refI total n (shr l) == 0) = false) :
    Calls Try.prog 9 #[.int .i64 total, .slice a n cap] w fun e w' => BRes w total n l e w' := by
  have h' : (refI total n (shr l) != 0) = true := by simpa using h
  have H : Hd ((refI total n (shr l) == 0) = false) := ⟨h⟩
  clear h
  obtain ⟨i0, hi, hz0, hz1, hz2⟩ := info_parts Try.info3
  have HR : Hd (LvR w a n l) := ⟨hr⟩
  clear hr
  go_enter Try.func9, Try.ntmps9
  go_wp2_with fail
  go_loopw [6, 7] (fun v i wr => ∃ k : Nat, k ≤ n ∧ i = .int .i64 k ∧ wr.ownsRow w.heap.size 3 1 v k (cellsOf (shr l) k) ∧ Below w.heap.size w wr) (fun _ i _ => n - (intOf i).toNat)
  case atStart => exact ⟨0, Nat.zero_le _, rfl, World.ownsRow_nil _ _ _ _, Below.refl _ _⟩
  case round =>
    obtain ⟨k, hk, rfl, hown, hb⟩ := hrel
    by_cases hlt : k < n
    · obtain ⟨sb, off, rfl, hsb, -, -, c2, -⟩ := (HR.out.carry hb).at hlt
      have c2 : wr.cell? ⟨sb, off + k * 10 + 2, none⟩ = some (.int .i64 (shr l k)) := c2
      have hsz := hb.size
      go_wp2_with (at_builtin; refine wpList_append_own _ rfl _ _ 36 rfl w.heap.size 3 i0 (.int .i64 0) 1 8 Try.underlying36 hi hz0 hz1 hz2 rfl (by decide) _ _ _ rfl (hown.alloc _) ⟨wr.heap.size, 0, none⟩ 1 1 [.int .i64 (shr l k)] rfl rfl (one_new _ _) (one_cell _) (by unfold maxLen; omega) (by omega) (by simp; omega) ?_; intro v' w2 hown' hgrow _)
      rw [cellsOf_succ (shr l) k] at hown'
      have hb4 : Below w.heap.size w w2 := (hb.alloc hb.size _).grown hgrow (by simp; omega) (fun q e => (hown.lt q e).1)
      clear hgrow hown hb c2
      go_wp2_with fail
      go_roundw
      case rel => exact ⟨k + 1, by omega, by go_num, hown', hb4⟩
      case measure => simp [intOf]; omega
    · obtain rfl : k = n := by omega
      obtain ⟨ma, mc, rfl, hrm⟩ := row_owned hown
      clear hown
      have J := ref_no total ma k mc (shr l) wr hrm H.out
      clear hrm
      go_wp2_with fail
      go_at_call 15
      refine J.mono ?_
      rintro e w' ⟨rfl, hw⟩
      obtain rfl := hw.symm
      clear J
      go_wp2_with fail
      go_ret2
      exact ⟨.inr (.inr ⟨H.out, rfl⟩), hb⟩

set_option maxRecDepth 20000 in
set_option maxHeartbeats 4000000 in
theorem rbounds_yes (total : Int) (a : Option Addr) (n cap : Nat) (l : Nat → Lv) (w : World) (hr : LvR w a n l) (hn : n ≤ 64) (hf : Fits total n (shr l)) :
    Calls Try.prog 9 #[.int .i64 total, .slice a n cap] w fun e w' => BRes w total n l e w' := by
  obtain ⟨b0, gi, gz0, gz1, gz2⟩ := info_parts Try.info35
  have HF : Hd (Fits total n (shr l)) := ⟨hf⟩
  have hlen := hf.len
  have hpos := hf.pos
  have hlo := hf.lo
  have hhi := hf.hi
  clear hf
  obtain ⟨i0, hi, hz0, hz1, hz2⟩ := info_parts Try.info3
  have HR : Hd (LvR w a n l) := ⟨hr⟩
  clear hr
  go_enter Try.func9, Try.ntmps9
  go_wp2_with fail
  go_loopw [6, 7] (fun v i wr => ∃ k : Nat, k ≤ n ∧ i = .int .i64 k ∧ wr.ownsRow w.heap.size 3 1 v k (cellsOf (shr l) k) ∧ Below w.heap.size w wr) (fun _ i _ => n - (intOf i).toNat)
  case atStart => exact ⟨0, Nat.zero_le _, rfl, World.ownsRow_nil _ _ _ _, Below.refl _ _⟩
  case round =>
    obtain ⟨k, hk, rfl, hown, hb⟩ := hrel
    by_cases hlt : k < n
    · obtain ⟨sb, off, rfl, hsb, -, -, c2, -⟩ := (HR.out.carry hb).at hlt
      have c2 : wr.cell? ⟨sb, off + k * 10 + 2, none⟩ = some (.int .i64 (shr l k)) := c2
      have hsz := hb.size
      go_wp2_with (at_builtin; refine wpList_append_own _ rfl _ _ 36 rfl w.heap.size 3 i0 (.int .i64 0) 1 8 Try.underlying36 hi hz0 hz1 hz2 rfl (by decide) _ _ _ rfl (hown.alloc _) ⟨wr.heap.size, 0, none⟩ 1 1 [.int .i64 (shr l k)] rfl rfl (one_new _ _) (one_cell _) (by unfold maxLen; omega) (by omega) (by simp; omega) ?_; intro v' w2 hown' hgrow _)
      rw [cellsOf_succ (shr l) k] at hown'
      have hb4 : Below w.heap.size w w2 := (hb.alloc hb.size _).grown hgrow (by simp; omega) (fun q e => (hown.lt q e).1)
      clear hgrow hown hb c2
      go_wp2_with fail
      go_roundw
      case rel => exact ⟨k + 1, by omega, by go_num, hown', hb4⟩
      case measure => simp [intOf]; omega
    · clear hi hz0 hz1 hz2 i0
      obtain rfl : n = k := by omega
      obtain ⟨ma, mc, rfl, hrm⟩ := row_owned hown
      clear hown
      have J := ref_yes total ma n mc (shr l) wr hrm HF.out
      clear hrm hlt hk
      go_wp2_with fail
      go_at_call 15
      refine J.mono ?_
      rintro e w3 ⟨pa, pc, rfl, hP, b3⟩
      clear J
      have B3 : Hd (Below w.heap.size w w3) := ⟨hb.trans (b3.mono hb.size)⟩
      clear hb b3
      obtain ⟨pb, po, rfl, hpb, hpc⟩ := hP hpos
      obtain ⟨sb, off, rfl, hsb, -⟩ := HR.out hpos
      have HC : Hd (∀ W, Below w3.heap.size w3 W → ∀ k, k < n → W.cell? ⟨pb, po + k, none⟩ = some (.int .i64 (part total n (shr l) k)) ∧ W.cell? ⟨sb, off + k * 10 + 3, none⟩ = some (.int .i64 (l k).lend) ∧ W.cell? ⟨sb, off + k * 10 + 4, none⟩ = some (.int .i64 (l k).borrow)) := ⟨fun W b k hk => by
        obtain ⟨sb', off', e', hsb', -, -, -, y3, y4, -⟩ := HR.out.at hk
        injection e' with e'
        injection e' with e1 e2
        subst e1 e2
        have hsb2 := Nat.lt_of_lt_of_le hsb B3.out.size
        exact ⟨(b.cell (p := ⟨pb, po + k, none⟩) hpb).trans (hpc k hk), (b.cell (p := ⟨sb, off + k * 10 + 3, none⟩) hsb2).trans ((B3.out.cell (p := ⟨sb, off + k * 10 + 3, none⟩) hsb).trans y3), (b.cell (p := ⟨sb, off + k * 10 + 4, none⟩) hsb2).trans ((B3.out.cell (p := ⟨sb, off + k * 10 + 4, none⟩) hsb).trans y4)⟩⟩
      clear hP hpb hpc hsb HR
      go_wp2_with fail
      go_loopw [10, 11] (fun v i wr => ∃ k : Nat, k ≤ n ∧ i = .int .i64 k ∧ Hd (∀ j, j < k → InR (l j)) ∧ wr.ownsRow w3.heap.size 35 3 v k (bdCs (bds total n l) k) ∧ Below w3.heap.size w3 wr) (fun _ i _ => n - (intOf i).toNat)
      case atStart => exact ⟨0, Nat.zero_le _, rfl, ⟨fun j hj => absurd hj (Nat.not_lt_zero _)⟩, World.ownsRow_nil _ _ _ _, Below.refl _ _⟩
      case round =>
        obtain ⟨j, hj, rfl, hall, hO, hB⟩ := hrel
        have O : Hd (wr.ownsRow w3.heap.size 35 3 u10 j (bdCs (bds total n l) j)) := ⟨hO⟩
        have Q : Hd (Below w3.heap.size w3 wr) := ⟨hB⟩
        clear hO hB
        by_cases hlt : j < n
        · obtain ⟨c0, c3, c4⟩ := HC.out wr Q.out j hlt
          obtain ⟨p0, p1⟩ := HF.out.part j hlt
          have HG : Hd (bds total n l j = bdOf total (part total n (shr l) j) (l j)) := ⟨rfl⟩
          have HX : Hd (∀ W, Below w3.heap.size w3 W → W.cell? ⟨pb, po + j, none⟩ = some (.int .i64 (part total n (shr l) j)) ∧ W.cell? ⟨sb, off + j * 10 + 3, none⟩ = some (.int .i64 (l j).lend) ∧ W.cell? ⟨sb, off + j * 10 + 4, none⟩ = some (.int .i64 (l j).borrow)) := ⟨fun W b => HC.out W b j hlt⟩
          have HP : Hd (∀ y : Int, 0 ≤ y → y ≤ 1000 → ∀ W, Calls Try.prog 16 #[.int .i64 (part total n (shr l) j), .int .i64 y] W fun e w' => e = .returned (.int .i64 (y * part total n (shr l) j / 100)) ∧ w' = W) := ⟨fun y y0 y1 W => part_ok _ y W p0 p1 y0 y1⟩
          have pT := part_le HF.out hlt
          have HI : Hd (InR (l j) ↔ 0 ≤ (l j).lend ∧ (l j).lend ≤ 100 ∧ -1 ≤ (l j).borrow ∧ (l j).borrow ≤ 1000) := ⟨Iff.rfl⟩
          unfold bdOf at HG
          generalize part total n (shr l) j = p at *
          generalize (l j).lend = x3 at *
          generalize (l j).borrow = x4 at *
          by_cases t1 : x3 < 0
          · have HN : Hd (∃ k, k < n ∧ ¬ InR (l k)) := ⟨⟨j, hlt, fun h => by have := HI.out.1 h; omega⟩⟩
            clear HI HP HX HG O
            go_wp2_with fail
            go_ret2
            exact ⟨.inr (.inl ⟨HF.out, HN.out, rfl⟩), B3.out.trans (Q.out.mono B3.out.size)⟩
          by_cases t2 : 100 < x3
          · have HN : Hd (∃ k, k < n ∧ ¬ InR (l k)) := ⟨⟨j, hlt, fun h => by have := HI.out.1 h; omega⟩⟩
            clear HI HP HX HG O
            go_wp2_with fail
            go_ret2
            exact ⟨.inr (.inl ⟨HF.out, HN.out, rfl⟩), B3.out.trans (Q.out.mono B3.out.size)⟩
          by_cases t3 : x4 < -1
          · have HN : Hd (∃ k, k < n ∧ ¬ InR (l k)) := ⟨⟨j, hlt, fun h => by have := HI.out.1 h; omega⟩⟩
            clear HI HP HX HG O
            go_wp2_with fail
            go_ret2
            exact ⟨.inr (.inl ⟨HF.out, HN.out, rfl⟩), B3.out.trans (Q.out.mono B3.out.size)⟩
          by_cases t4 : 1000 < x4
          · have HN : Hd (∃ k, k < n ∧ ¬ InR (l k)) := ⟨⟨j, hlt, fun h => by have := HI.out.1 h; omega⟩⟩
            clear HI HP HX HG O
            go_wp2_with fail
            go_ret2
            exact ⟨.inr (.inl ⟨HF.out, HN.out, rfl⟩), B3.out.trans (Q.out.mono B3.out.size)⟩
          have HIN : Hd (InR (l j)) := ⟨HI.out.2 ⟨by omega, by omega, by omega, by omega⟩⟩
          have HL : Hd (∀ W, Calls Try.prog 16 #[.int .i64 p, .int .i64 x3] W fun e w' => e = .returned (.int .i64 (x3 * p / 100)) ∧ w' = W) := ⟨HP.out x3 (by omega) (by omega)⟩
          obtain ⟨m1, m2⟩ := hun_prod (n := x3) (p := p) (by omega) (by omega) p0 p1
          have n1 : 0 ≤ x3 * p / 100 := by omega
          have n2 : x3 * p / 100 ≤ 40960 := by omega
          clear m1 m2 HI HC
          by_cases t5 : 0 ≤ x4
          · obtain ⟨m1, m2⟩ := hun_prod (n := x4) (p := p) t5 (by omega) p0 p1
            have HM : Hd (∀ W, Calls Try.prog 16 #[.int .i64 p, .int .i64 x4] W fun e w' => e = .returned (.int .i64 (x4 * p / 100)) ∧ w' = W) := ⟨HP.out x4 t5 (by omega)⟩
            have n3 : 0 ≤ x4 * p / 100 := by omega
            have n4 : x4 * p / 100 ≤ 40960 := by omega
            clear m1 m2 HP
            rw [if_pos t5] at HG
            have g1 : decide (0 ≤ x4) = true := decide_eq_true t5
            generalize x3 * p / 100 = A at *
            generalize x4 * p / 100 = C at *
            by_cases t6 : p + C < total
            · have g2 : decide (p + C < total) = true := decide_eq_true t6
              go_wp2_with fail
              go_quiet ((go_at_call 16; with_reducible exact Calls.quiet_of_same (HM.out _)))
              go_upto_region 17 with fail
              have Q2 : Hd (Below w3.heap.size w3 (wr.drewN nq)) := ⟨⟨Q.out.os, Q.out.tape, Q.out.output, Q.out.size, Q.out.block⟩⟩
              have O2 : Hd ((wr.drewN nq).ownsRow w3.heap.size 35 3 u10 j (bdCs (bds total n l) j)) := ⟨O.out⟩
              clear c0 c3 c4 O Q
              obtain ⟨c0, c3, c4⟩ := HX.out _ Q2.out
              generalize wr.drewN nq = wq at *
              go_quiet ((go_at_call 16; with_reducible exact Calls.quiet_of_same (HM.out _)))
              rename Hd (Below w3.heap.size w3 wq) => Q
              rename Hd (wq.ownsRow w3.heap.size 35 3 u10 j (bdCs (bds total n l) j)) => O
              go_upto_region 18 with fail
              have BD : Below w3.heap.size w3 (wq.drewN nq).drew := ⟨Q.out.os, Q.out.tape, Q.out.output, Q.out.size, Q.out.block⟩
              have OD : (wq.drewN nq).drew.ownsRow w3.heap.size 35 3 u10 j (bdCs (bds total n l) j) := O.out
              have WR : Hd (IntKind.i64.wrap (p - A) = p - A) := ⟨by rw [IntKind.wrap_i64]; omega⟩
              refine AnyG.start (T := fun W => Below w3.heap.size w3 W) (U := fun _ => True) (j0 := 100) (by kernel_rfl) ?_
              generalize (wq.drewN nq).drew = wd at *
              refine .tq 0 113 BD ?_; simp only [tkA, tkB, tkC]
              refine .tq 1 114 BD ?_; simp only [tkA, tkB, tkC]
              refine .tq 2 115 BD ?_; simp only [tkA, tkB, tkC]
              refine .tq 3 116 BD ?_; simp only [tkA, tkB, tkC]
              refine .tq 4 117 BD ?_ (hy := fun w hSw => by obtain ⟨s0, s1, -⟩ := HX.out w hSw; go_simp; rfl); simp only [tkA, tkB, tkC]
              refine .tq 5 118 BD ?_; simp only [tkA, tkB, tkC]
              refine .tq 6 119 BD ?_; simp only [tkA, tkB, tkC]
              refine .tq 7 120 BD ?_; simp only [tkA, tkB, tkC]
              refine .tq 8 121 BD ?_ (hy := fun w hSw => by obtain ⟨s0, s1, -⟩ := HX.out w hSw; go_simp; rfl); simp only [tkA, tkB, tkC]
              refine .tq 9 122 BD ?_; simp only [tkA, tkB, tkC]
              refine .tq 10 123 BD ?_; simp only [tkA, tkB, tkC]
              refine .tq 11 124 BD ?_; simp only [tkA, tkB, tkC]
              refine .tq 12 125 BD ?_ (hy := fun w hSw => by obtain ⟨s0, s1, -⟩ := HX.out w hSw; go_simp; rfl); simp only [tkA, tkB, tkC]
              refine .tq 13 126 BD ?_; simp only [tkA, tkB, tkC]
              refine .tq 14 127 BD ?_; simp only [tkA, tkB, tkC]
              refine .tq 15 128 BD ?_; simp only [tkA, tkB, tkC]
              refine .tq 16 129 BD ?_; simp only [tkA, tkB, tkC]
              refine .tq 17 130 BD ?_ (hy := fun w hSw => by obtain ⟨s0, s1, -⟩ := HX.out w hSw; go_simp; rfl); simp only [tkA, tkB, tkC]
              refine .tq 20 133 BD ?_; simp only [tkA, tkB, tkC]
              refine AnyG.ready (rs := [18]) (by kernel_rfl) (by simp) ?_
              refine AllG.cons rfl (fun K hK => ?_) AllG.nil
              go_simp
              refine (HL.out wd).mono ?_
              rintro e wk ⟨rfl, hwk⟩
              obtain rfl := hwk.symm
              refine hK.out _ _ ⟨BD, fun _ => trivial⟩ ?_
              clear hK K
              refine .tq (v := .int .i64 (p - A)) 19 132 BD ?_ (hy := fun w hSw => by go_simp; first | exact WR.out | rw [WR.out]); simp only [tkA, tkB, tkC]
              refine .tq 21 134 BD ?_; simp only [tkA, tkB, tkC]
              refine AnyG.ready (rs := [22]) (by kernel_rfl) (by simp) ?_
              refine AllG.cons rfl (fun K hK => ?_) AllG.nil
              go_simp
              have AL := alloc_below wd (.cells #[.int .i64 p, .int .i64 (p - A), .int .i64 (p + C)] 35)
              have BK : Below w3.heap.size w3 (wd.alloc (.cells #[.int .i64 p, .int .i64 (p - A), .int .i64 (p + C)] 35)) := BD.trans (AL.mono BD.size)
              have OK : (wd.alloc (.cells #[.int .i64 p, .int .i64 (p - A), .int .i64 (p + C)] 35)).ownsRow w3.heap.size 35 3 u10 j (bdCs (bds total n l) j) := OD.alloc _
              have NW := World.news_of_block (Blk.new wd 35 #[.int .i64 p, .int .i64 (p - A), .int .i64 (p + C)])
              refine hK.out _ _ ⟨BK, fun _ => trivial⟩ ?_
              clear hK K AL OD BD
              generalize wd.alloc (.cells #[.int .i64 p, .int .i64 (p - A), .int .i64 (p + C)] 35) = wk at *
              generalize wd.heap.size = gk at *
              refine AnyG.ready (rs := [23]) (by kernel_rfl) (by simp) ?_
              refine AllG.cons rfl (fun K hK => ?_) AllG.nil
              have szk := BK.size
              refine step_append_lies wk rfl (.tmp 113) (.tmp 135) 24 rfl w3.heap.size 35 b0 (.agg #[.int .i64 0, .int .i64 0, .int .i64 0]) 3 24 Try.underlying24 gi gz0 gz1 gz2 rfl (by decide) _ _ _ (by simp [Act.eval]) OK ⟨gk, 0, none⟩ 1 1 (bdC ⟨p, p - A, p + C⟩) (by simp [Act.eval]) rfl NW (bdC_one _) (by decide) (by unfold maxLen; omega) (by omega) szk _ rfl ?_
              intro q8 cap8 w8 hown hgrow hat hlt8
              have B8 : Below w3.heap.size w3 w8 := BK.grown hgrow szk (fun j hj => (OK.lt j hj).1)
              refine hK.out _ _ ⟨B8, fun _ => trivial⟩ ?_
              clear hK K hgrow hat hlt8 NW OK BK szk
              refine AnyG.putAt 136 rfl ?_
              simp only [List.setIfInBounds_toArray, List.set_cons_zero, List.set_cons_succ]
              refine .tq 24 10 B8 ?_; simp only [tkA, tkB, tkC]
              refine AnyG.done (by kernel_rfl) ?_ _
              have OX : Hd (w8.ownsRow w3.heap.size 35 3 (.slice (some ⟨q8, 0, none⟩) (j + 1) cap8) (j + 1) (bdCs (bds total n l) (j + 1))) := ⟨by
                have e : bds total n l j = ⟨p, p - A, p + C⟩ := HG.out.trans (by rw [Int.min_eq_left (by omega)])
                simp only [bdCs]
                rw [e]
                exact hown⟩
              clear hown
              have BX : Hd (Below w3.heap.size w3 w8) := ⟨B8⟩
              clear B8
              go_wp2_with fail
              go_roundw
              case rel => exact ⟨j + 1, by omega, by go_num, ⟨fun q hq => by
                rcases Nat.lt_or_eq_of_le (Nat.le_of_lt_succ hq) with h | h
                · exact hall.out q h
                · rw [h]; exact HIN.out⟩, OX.out, BX.out⟩
              case measure => simp [intOf]; omega
            · have g2 : decide (p + C < total) = false := decide_eq_false t6
              go_wp2_with fail
              go_quiet ((go_at_call 16; with_reducible exact Calls.quiet_of_same (HM.out _)))
              go_upto_region 18 with fail
              have BD : Below w3.heap.size w3 (wr.drewN nq).drew := ⟨Q.out.os, Q.out.tape, Q.out.output, Q.out.size, Q.out.block⟩
              have OD : (wr.drewN nq).drew.ownsRow w3.heap.size 35 3 u10 j (bdCs (bds total n l) j) := O.out
              have WR : Hd (IntKind.i64.wrap (p - A) = p - A) := ⟨by rw [IntKind.wrap_i64]; omega⟩
              refine AnyG.start (T := fun W => Below w3.heap.size w3 W) (U := fun _ => True) (j0 := 100) (by kernel_rfl) ?_
              generalize (wr.drewN nq).drew = wd at *
              refine .tq 0 113 BD ?_; simp only [tkA, tkB, tkC]
              refine .tq 1 114 BD ?_; simp only [tkA, tkB, tkC]
              refine .tq 2 115 BD ?_; simp only [tkA, tkB, tkC]
              refine .tq 3 116 BD ?_; simp only [tkA, tkB, tkC]
              refine .tq 4 117 BD ?_ (hy := fun w hSw => by obtain ⟨s0, s1, -⟩ := HX.out w hSw; go_simp; rfl); simp only [tkA, tkB, tkC]
              refine .tq 5 118 BD ?_; simp only [tkA, tkB, tkC]
              refine .tq 6 119 BD ?_; simp only [tkA, tkB, tkC]
              refine .tq 7 120 BD ?_; simp only [tkA, tkB, tkC]
              refine .tq 8 121 BD ?_ (hy := fun w hSw => by obtain ⟨s0, s1, -⟩ := HX.out w hSw; go_simp; rfl); simp only [tkA, tkB, tkC]
              refine .tq 9 122 BD ?_; simp only [tkA, tkB, tkC]
              refine .tq 10 123 BD ?_; simp only [tkA, tkB, tkC]
              refine .tq 11 124 BD ?_; simp only [tkA, tkB, tkC]
              refine .tq 12 125 BD ?_ (hy := fun w hSw => by obtain ⟨s0, s1, -⟩ := HX.out w hSw; go_simp; rfl); simp only [tkA, tkB, tkC]
              refine .tq 13 126 BD ?_; simp only [tkA, tkB, tkC]
              refine .tq 14 127 BD ?_; simp only [tkA, tkB, tkC]
              refine .tq 15 128 BD ?_; simp only [tkA, tkB, tkC]
              refine .tq 16 129 BD ?_; simp only [tkA, tkB, tkC]
              refine .tq 17 130 BD ?_ (hy := fun w hSw => by obtain ⟨s0, s1, -⟩ := HX.out w hSw; go_simp; rfl); simp only [tkA, tkB, tkC]
              refine .tq 20 133 BD ?_; simp only [tkA, tkB, tkC]
              refine AnyG.ready (rs := [18]) (by kernel_rfl) (by simp) ?_
              refine AllG.cons rfl (fun K hK => ?_) AllG.nil
              go_simp
              refine (HL.out wd).mono ?_
              rintro e wk ⟨rfl, hwk⟩
              obtain rfl := hwk.symm
              refine hK.out _ _ ⟨BD, fun _ => trivial⟩ ?_
              clear hK K
              refine .tq (v := .int .i64 (p - A)) 19 132 BD ?_ (hy := fun w hSw => by go_simp; first | exact WR.out | rw [WR.out]); simp only [tkA, tkB, tkC]
              refine .tq 21 134 BD ?_; simp only [tkA, tkB, tkC]
              refine AnyG.ready (rs := [22]) (by kernel_rfl) (by simp) ?_
              refine AllG.cons rfl (fun K hK => ?_) AllG.nil
              go_simp
              have AL := alloc_below wd (.cells #[.int .i64 p, .int .i64 (p - A), .int .i64 (total)] 35)
              have BK : Below w3.heap.size w3 (wd.alloc (.cells #[.int .i64 p, .int .i64 (p - A), .int .i64 (total)] 35)) := BD.trans (AL.mono BD.size)
              have OK : (wd.alloc (.cells #[.int .i64 p, .int .i64 (p - A), .int .i64 (total)] 35)).ownsRow w3.heap.size 35 3 u10 j (bdCs (bds total n l) j) := OD.alloc _
              have NW := World.news_of_block (Blk.new wd 35 #[.int .i64 p, .int .i64 (p - A), .int .i64 (total)])
              refine hK.out _ _ ⟨BK, fun _ => trivial⟩ ?_
              clear hK K AL OD BD
              generalize wd.alloc (.cells #[.int .i64 p, .int .i64 (p - A), .int .i64 (total)] 35) = wk at *
              generalize wd.heap.size = gk at *
              refine AnyG.ready (rs := [23]) (by kernel_rfl) (by simp) ?_
              refine AllG.cons rfl (fun K hK => ?_) AllG.nil
              have szk := BK.size
              refine step_append_lies wk rfl (.tmp 113) (.tmp 135) 24 rfl w3.heap.size 35 b0 (.agg #[.int .i64 0, .int .i64 0, .int .i64 0]) 3 24 Try.underlying24 gi gz0 gz1 gz2 rfl (by decide) _ _ _ (by simp [Act.eval]) OK ⟨gk, 0, none⟩ 1 1 (bdC ⟨p, p - A, total⟩) (by simp [Act.eval]) rfl NW (bdC_one _) (by decide) (by unfold maxLen; omega) (by omega) szk _ rfl ?_
              intro q8 cap8 w8 hown hgrow hat hlt8
              have B8 : Below w3.heap.size w3 w8 := BK.grown hgrow szk (fun j hj => (OK.lt j hj).1)
              refine hK.out _ _ ⟨B8, fun _ => trivial⟩ ?_
              clear hK K hgrow hat hlt8 NW OK BK szk
              refine AnyG.putAt 136 rfl ?_
              simp only [List.setIfInBounds_toArray, List.set_cons_zero, List.set_cons_succ]
              refine .tq 24 10 B8 ?_; simp only [tkA, tkB, tkC]
              refine AnyG.done (by kernel_rfl) ?_ _
              have OX : Hd (w8.ownsRow w3.heap.size 35 3 (.slice (some ⟨q8, 0, none⟩) (j + 1) cap8) (j + 1) (bdCs (bds total n l) (j + 1))) := ⟨by
                have e : bds total n l j = ⟨p, p - A, total⟩ := HG.out.trans (by rw [Int.min_eq_right (by omega)])
                simp only [bdCs]
                rw [e]
                exact hown⟩
              clear hown
              have BX : Hd (Below w3.heap.size w3 w8) := ⟨B8⟩
              clear B8
              go_wp2_with fail
              go_roundw
              case rel => exact ⟨j + 1, by omega, by go_num, ⟨fun q hq => by
                rcases Nat.lt_or_eq_of_le (Nat.le_of_lt_succ hq) with h | h
                · exact hall.out q h
                · rw [h]; exact HIN.out⟩, OX.out, BX.out⟩
              case measure => simp [intOf]; omega
          · have g1 : decide (0 ≤ x4) = false := decide_eq_false t5
            rw [if_neg t5] at HG
            clear HP
            generalize x3 * p / 100 = A at *
            go_wp2_with fail
            go_quiet (fail)
            go_upto_region 18 with fail
            have BD : Below w3.heap.size w3 (wr.drewN nq).drew := ⟨Q.out.os, Q.out.tape, Q.out.output, Q.out.size, Q.out.block⟩
            have OD : (wr.drewN nq).drew.ownsRow w3.heap.size 35 3 u10 j (bdCs (bds total n l) j) := O.out
            have WR : Hd (IntKind.i64.wrap (p - A) = p - A) := ⟨by rw [IntKind.wrap_i64]; omega⟩
            refine AnyG.start (T := fun W => Below w3.heap.size w3 W) (U := fun _ => True) (j0 := 100) (by kernel_rfl) ?_
            generalize (wr.drewN nq).drew = wd at *
            refine .tq 0 113 BD ?_; simp only [tkA, tkB, tkC]
            refine .tq 1 114 BD ?_; simp only [tkA, tkB, tkC]
            refine .tq 2 115 BD ?_; simp only [tkA, tkB, tkC]
            refine .tq 3 116 BD ?_; simp only [tkA, tkB, tkC]
            refine .tq 4 117 BD ?_ (hy := fun w hSw => by obtain ⟨s0, s1, -⟩ := HX.out w hSw; go_simp; rfl); simp only [tkA, tkB, tkC]
            refine .tq 5 118 BD ?_; simp only [tkA, tkB, tkC]
            refine .tq 6 119 BD ?_; simp only [tkA, tkB, tkC]
            refine .tq 7 120 BD ?_; simp only [tkA, tkB, tkC]
            refine .tq 8 121 BD ?_ (hy := fun w hSw => by obtain ⟨s0, s1, -⟩ := HX.out w hSw; go_simp; rfl); simp only [tkA, tkB, tkC]
            refine .tq 9 122 BD ?_; simp only [tkA, tkB, tkC]
            refine .tq 10 123 BD ?_; simp only [tkA, tkB, tkC]
            refine .tq 11 124 BD ?_; simp only [tkA, tkB, tkC]
            refine .tq 12 125 BD ?_ (hy := fun w hSw => by obtain ⟨s0, s1, -⟩ := HX.out w hSw; go_simp; rfl); simp only [tkA, tkB, tkC]
            refine .tq 13 126 BD ?_; simp only [tkA, tkB, tkC]
            refine .tq 14 127 BD ?_; simp only [tkA, tkB, tkC]
            refine .tq 15 128 BD ?_; simp only [tkA, tkB, tkC]
            refine .tq 16 129 BD ?_; simp only [tkA, tkB, tkC]
            refine .tq 17 130 BD ?_ (hy := fun w hSw => by obtain ⟨s0, s1, -⟩ := HX.out w hSw; go_simp; rfl); simp only [tkA, tkB, tkC]
            refine .tq 20 133 BD ?_; simp only [tkA, tkB, tkC]
            refine AnyG.ready (rs := [18]) (by kernel_rfl) (by simp) ?_
            refine AllG.cons rfl (fun K hK => ?_) AllG.nil
            go_simp
            refine (HL.out wd).mono ?_
            rintro e wk ⟨rfl, hwk⟩
            obtain rfl := hwk.symm
            refine hK.out _ _ ⟨BD, fun _ => trivial⟩ ?_
            clear hK K
            refine .tq (v := .int .i64 (p - A)) 19 132 BD ?_ (hy := fun w hSw => by go_simp; first | exact WR.out | rw [WR.out]); simp only [tkA, tkB, tkC]
            refine .tq 21 134 BD ?_; simp only [tkA, tkB, tkC]
            refine AnyG.ready (rs := [22]) (by kernel_rfl) (by simp) ?_
            refine AllG.cons rfl (fun K hK => ?_) AllG.nil
            go_simp
            have AL := alloc_below wd (.cells #[.int .i64 p, .int .i64 (p - A), .int .i64 (total)] 35)
            have BK : Below w3.heap.size w3 (wd.alloc (.cells #[.int .i64 p, .int .i64 (p - A), .int .i64 (total)] 35)) := BD.trans (AL.mono BD.size)
            have OK : (wd.alloc (.cells #[.int .i64 p, .int .i64 (p - A), .int .i64 (total)] 35)).ownsRow w3.heap.size 35 3 u10 j (bdCs (bds total n l) j) := OD.alloc _
            have NW := World.news_of_block (Blk.new wd 35 #[.int .i64 p, .int .i64 (p - A), .int .i64 (total)])
            refine hK.out _ _ ⟨BK, fun _ => trivial⟩ ?_
            clear hK K AL OD BD
            generalize wd.alloc (.cells #[.int .i64 p, .int .i64 (p - A), .int .i64 (total)] 35) = wk at *
            generalize wd.heap.size = gk at *
            refine AnyG.ready (rs := [23]) (by kernel_rfl) (by simp) ?_
            refine AllG.cons rfl (fun K hK => ?_) AllG.nil
            have szk := BK.size
            refine step_append_lies wk rfl (.tmp 113) (.tmp 135) 24 rfl w3.heap.size 35 b0 (.agg #[.int .i64 0, .int .i64 0, .int .i64 0]) 3 24 Try.underlying24 gi gz0 gz1 gz2 rfl (by decide) _ _ _ (by simp [Act.eval]) OK ⟨gk, 0, none⟩ 1 1 (bdC ⟨p, p - A, total⟩) (by simp [Act.eval]) rfl NW (bdC_one _) (by decide) (by unfold maxLen; omega) (by omega) szk _ rfl ?_
            intro q8 cap8 w8 hown hgrow hat hlt8
            have B8 : Below w3.heap.size w3 w8 := BK.grown hgrow szk (fun j hj => (OK.lt j hj).1)
            refine hK.out _ _ ⟨B8, fun _ => trivial⟩ ?_
            clear hK K hgrow hat hlt8 NW OK BK szk
            refine AnyG.putAt 136 rfl ?_
            simp only [List.setIfInBounds_toArray, List.set_cons_zero, List.set_cons_succ]
            refine .tq 24 10 B8 ?_; simp only [tkA, tkB, tkC]
            refine AnyG.done (by kernel_rfl) ?_ _
            have OX : Hd (w8.ownsRow w3.heap.size 35 3 (.slice (some ⟨q8, 0, none⟩) (j + 1) cap8) (j + 1) (bdCs (bds total n l) (j + 1))) := ⟨by
              have e : bds total n l j = ⟨p, p - A, total⟩ := HG.out.trans (by rfl)
              simp only [bdCs]
              rw [e]
              exact hown⟩
            clear hown
            have BX : Hd (Below w3.heap.size w3 w8) := ⟨B8⟩
            clear B8
            go_wp2_with fail
            go_roundw
            case rel => exact ⟨j + 1, by omega, by go_num, ⟨fun q hq => by
              rcases Nat.lt_or_eq_of_le (Nat.le_of_lt_succ hq) with h | h
              · exact hall.out q h
              · rw [h]; exact HIN.out⟩, OX.out, BX.out⟩
            case measure => simp [intOf]; omega
        · obtain rfl : n = j := by omega
          obtain ⟨ra, rc, rfl, hrb⟩ := bd_owned O.out
          clear O
          go_wp2_with fail
          go_ret2
          exact ⟨.inl ⟨HF.out, hall.out, _, _, rfl, hrb⟩, B3.out.trans (Q.out.mono B3.out.size)⟩
end Go.Proofs.Ytkohofiobpniiaa
