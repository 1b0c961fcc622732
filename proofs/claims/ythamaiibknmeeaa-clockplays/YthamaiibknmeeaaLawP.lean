/-
  The walk of the statement 'ClockPlays'. Conditions: the script lies in memory.
-/
import Derived.Test.YthamaiibknmeeaaDuo
import Derived.Deep.CutRange
import Derived.Deep.CutBlock
import Derived.Deep.DeepCutAuto
import Derived.Deep.LoopGhost
import Derived.Deep.RegionHeld
namespace Go.Proofs.Ythamaiibknmeeaa
open Go.RowKit Go.Lib Go.Sort Go.Maps

/-- The program's clock and the reference's beside it: they have the same dues. -/
def Play (w0 : World) (cb rb : Nat) (w : World) : Prop :=
  ∃ (S : Nat → Prop) (t : Int) (M : Int × Int → Prop) (n : Nat) (v : Value) (K : List (Int × Int)), Duo w0.heap.size w cb S t M n rb v t K ∧ Agree M n K ∧ Below w0.heap.size w0 w

/-- What 'Cancel' answers. -/
def cancelC (M : Int × Int → Prop) (id : Int) (D : ∀ p : Prop, Decidable p := fun p => Classical.propDecidable p) : Int := @ite Int (has M id D = 1) (instDecidableEqNat _ _) 0 6
theorem cancel_code {w : World} {cb : Nat} {S : Nat → Prop} {t : Int} {M : Int × Int → Prop} {n : Nat} (h : Clk w cb S t M n) (id : Int) (hid : -9223372036854775808 ≤ id ∧ id < 9223372036854775808) : Calls Try.prog 12 #[.pointer (some ⟨cb, 0, none⟩), .int .i64 id] w fun e w' =>
    e = .returned (.int .i64 (cancelC M id)) ∧ Clk w' cb S t (fun y => M y ∧ y.2 ≠ id) (n - has M id) ∧ Kept S w w' := cancel_any h id hid
theorem rcancel_code {B : Nat} {w : World} {rb : Nat} {v : Value} {t : Int} {K : List (Int × Int)} {M : Int × Int → Prop} {n : Nat} (h : Ref B w rb v t K) (hB : B ≤ w.heap.size) (ag : Agree M n K) (id : Int) : Calls Try.prog 13 #[.pointer (some ⟨rb, 0, none⟩), .int .i64 id] w fun e w' =>
    e = .returned (.int .i64 (cancelC M id)) ∧ ∃ v' K', Ref B w' rb v' t K' ∧ Agree (fun y => M y ∧ y.2 ≠ id) (n - has M id) K' ∧ Kept (Of rb v) w w' ∧ Fresh w v v' := rcancel_any h hB ag id

theorem below_drewN (w : World) (q : Nat) : Below w.heap.size w (w.drewN q) := ⟨rfl, rfl, rfl, Nat.le_refl _, fun _ _ => rfl⟩

set_option maxRecDepth 20000 in
set_option maxHeartbeats 8000000 in
theorem plays_any (a : Option Addr) (n0 cap : Nat) (f : Nat → Int × (Int × Int)) (w : World) (hr : RowO w a n0 f) (hwf : ∀ k, k < n0 → WfO (f k)) (hn : n0 ≤ 9223372036854775807) :
    Calls Try.prog 3 #[.slice a n0 cap] w fun e w' => e = .returned (.bool true) ∧ Below w.heap.size w w' := by
  have A := awake_any w
  go_enter Try.func3, Try.ntmps3
  go_wp2_with fail
  go_at_call 8
  refine A.mono ?_
  rintro e w1 ⟨rfl, b1⟩
  have N := clk_new w1
  clear A
  go_wp2_with fail
  go_at_call 9
  refine N.mono ?_
  rintro e w2 ⟨cb, S, rfl, C2, hS2, b2⟩
  have bb : Below w.heap.size w w2 := b1.trans (b2.mono b1.size)
  have hSl := C2.lt
  obtain ⟨w3, hw3⟩ : ∃ w3, w3 = w2.alloc (.cells #[.int .i64 0, .slice none 0 0] 28) := ⟨_, rfl⟩
  have b3 : Below w2.heap.size w2 w3 := hw3 ▸ (Below.refl _ _).alloc (Nat.le_refl _) _
  have P2 : Play w cb w2.heap.size w3 := by
    refine ⟨S, 0, fun _ => False, 0, .slice none 0 0, [], ⟨Nat.le_trans bb.size b3.size, C2.below b3, ⟨by rw [hw3]; simp, bb.size, by rw [hw3]; simp [go_sem], by rw [hw3]; simp [go_sem], by rw [hw3]; simp [go_sem], by rw [hw3]; simp [go_sem], DOwn.nil _ _, fun g e => (by cases e), by simp⟩, fun k hk => Nat.le_trans b1.size (hS2 k hk), fun h => by have := hSl _ h; omega, fun g e => (by cases e)⟩, ⟨fun y => ⟨fun h => h.elim, fun h => (by cases h)⟩, rfl, List.Pairwise.nil⟩, bb.trans (b3.mono bb.size)⟩
  clear N b1 b2 C2 hS2 bb b3 hSl
  go_wp2_with fail
  rw [← hw3]
  generalize w2.heap.size = rb at *
  clear hw3
  go_loopg [5] 300 (fun g v wr => ∃ k : Nat, k ≤ 300 ∧ k ≤ n0 ∧ 300 - k ≤ g ∧ v = .int .i64 k ∧ Play w cb rb wr)
  case atStart => exact ⟨0, by omega, by omega, by omega, rfl, P2⟩
  case round =>
    obtain ⟨k, hk, hkn, hg, rfl, P⟩ := hrel
    clear P2
    obtain ⟨S, t, M, n, v, K, D, ag, bk⟩ := P
    by_cases hlt : k < n0 ∧ k < 300
    · obtain ⟨hl1, hl2⟩ := hlt
      obtain ⟨hwd, hwx⟩ := hwf k hl1
      obtain ⟨b, off, rfl, hb1, hc⟩ := hr (by omega)
      obtain ⟨c0, c1, c2⟩ := hc k hl1
      have d0 := (bk.cell (p := ⟨b, off + k * 3, none⟩) hb1).trans c0
      have d1 := (bk.cell (p := ⟨b, off + k * 3 + 1, none⟩) hb1).trans c1
      have d2 := (bk.cell (p := ⟨b, off + k * 3 + 2, none⟩) hb1).trans c2
      have i1 : (k : Int) < (n0 : Int) := by omega
      have i2 : (k : Int) < 300 := by omega
      clear hc hwf hr c0 c1 c2
      generalize f k = y at *
      obtain ⟨op, x⟩ := y
      dsimp only at d0 d1 d2 hwd hwx
      obtain ⟨u, hu⟩ : ∃ u : Nat, (IntKind.u64.wrap op).tmod 3 = (u : Int) ∧ u < 3 := by
        refine ⟨((IntKind.u64.wrap op) % 3).toNat, ?_⟩
        have h0 : 0 ≤ IntKind.u64.wrap op := by rw [IntKind.wrap_u64]; omega
        rw [Int.tmod_eq_emod_of_nonneg h0]
        omega
      obtain ⟨hu1, hu2⟩ := hu
      go_upto_block 2 with fail
      go_cut [7, 8, 9, 10] from 18 to 113 (fun _ _ _ _ wx => Play w cb rb wx)
      case first =>
        obtain ⟨w4, hw4⟩ : ∃ w4, w4 = wr.alloc (.cells #[.int .i64 op, .int .i64 x.2, .int .i64 x.1] 30) := ⟨_, rfl⟩
        have bA : Below wr.heap.size wr w4 := hw4 ▸ (Below.refl _ _).alloc (Nat.le_refl _) _
        have o0 : w4.cell? ⟨wr.heap.size, 1, none⟩ = some (.int .i64 x.2) := by rw [hw4]; simp [go_sem]
        have o1 : w4.cell? ⟨wr.heap.size, 2, none⟩ = some (.int .i64 x.1) := by rw [hw4]; simp [go_sem]
        have ol : wr.heap.size < w4.heap.size := by rw [hw4]; simp
        have nSo : ¬ S wr.heap.size := fun h => by have := D.c.lt _ h; omega
        have nRo : ¬ Of rb v wr.heap.size := by
          rintro (e | e)
          · have := D.r.lt; omega
          · have := (World.ownsRow.lt D.r.own _ e).2; omega
        have D4 := D.below bA
        have b4 := bk.trans (bA.mono bk.size)
        rw [← hw4]
        clear hw4 bA D bk d0 d1 d2 hu1
        generalize wr.heap.size = OB at *
        rcases (by omega : u = 0 ∨ u = 1 ∨ u = 2) with rfl | rfl | rfl
        · have D5 : Duo w.heap.size w4.drew cb S t M n rb v t K := D4.below (below_drewN w4 1)
          have b5 : Below w.heap.size w w4.drew := ⟨b4.os, b4.tape, b4.output, b4.size, b4.block⟩
          have ol5 : OB < w4.drew.heap.size := ol
          clear D4 b4
          go_wp2_with fail
          go_region_held (fun w' => w'.cell? ⟨OB, 1, none⟩ = some (.int .i64 x.2) ∧ w'.cell? ⟨OB, 2, none⟩ = some (.int .i64 x.1)) (first | exact ⟨r0, r1⟩ | exact ⟨q0, q1⟩ | exact ⟨o0, o1⟩) (first
            | (go_at_call 10; refine (set_any D5.c x.2 x.1 hwx.2).mono ?_; rintro e w6 ⟨rfl, S6, C6, k6, hS6⟩; have q0 := (k6.cell (o := 1) ol5 nSo).trans o0; have q1 := (k6.cell (o := 2) ol5 nSo).trans o1; have ol6 := Nat.lt_of_lt_of_le ol5 k6.size; obtain ⟨D6, b6⟩ := D5.wrote C6 k6 hS6)
            | (go_at_call 11; refine (rset_any D6.r D6.hB ag x.2 x.1).mono ?_; rintro e w7 ⟨rfl, v7, K7, R7, ag7, k7, f7⟩; have r0 := (k7.cell (o := 1) ol6 nRo).trans q0; have r1 := (k7.cell (o := 2) ol6 nRo).trans q1; obtain ⟨D7, b7⟩ := D6.wroteR R7 k7 f7))
          all_goals
            have bf := (b5.trans b6).trans b7
            clear b5 b6 b7 D5 D6
            go_wp2
            go_meet
            exact ⟨S6, t, _, _, v7, K7, D7, ag7, bf⟩
        · have D5 : Duo w.heap.size w4.drew cb S t M n rb v t K := D4.below (below_drewN w4 1)
          have b5 : Below w.heap.size w w4.drew := ⟨b4.os, b4.tape, b4.output, b4.size, b4.block⟩
          have ol5 : OB < w4.drew.heap.size := ol
          clear D4 b4
          go_wp2_with fail
          go_region_held (fun w' => w'.cell? ⟨OB, 1, none⟩ = some (.int .i64 x.2)) (first | exact r0 | exact q0 | exact o0) (first
            | (go_at_call 12; refine (cancel_code D5.c x.2 hwx.2).mono ?_; rintro e w6 ⟨rfl, C6, k6⟩; have q0 := (k6.cell (o := 1) ol5 nSo).trans o0; have ol6 := Nat.lt_of_lt_of_le ol5 k6.size; obtain ⟨D6, b6⟩ := D5.wrote C6 k6 (fun _ h => .inl h))
            | (go_at_call 13; refine (rcancel_code D6.r D6.hB ag x.2).mono ?_; rintro e w7 ⟨rfl, v7, K7, R7, ag7, k7, f7⟩; have r0 := (k7.cell (o := 1) ol6 nRo).trans q0; obtain ⟨D7, b7⟩ := D6.wroteR R7 k7 f7))
          all_goals
            have bf := (b5.trans b6).trans b7
            clear b5 b6 b7 D5 D6
            go_wp2
            go_meet
            exact ⟨S, t, _, _, v7, K7, D7, ag7, bf⟩
        · by_cases c1 : x.1 < t
          · have A1 := advance_early D4.c x.1 c1
            have A2 := radvance_early D4.r x.1 c1
            have SM := DOwn.same (DOwn.nil w4.heap.size w4) (DOwn.nil w4.heap.size w4)
            go_wp2_with fail
            go_at_call 14
            refine A1.mono ?_
            rintro e w' ⟨rfl, hw⟩
            obtain rfl := hw.symm
            go_wp2_with fail
            go_at_call 15
            refine A2.mono ?_
            rintro e w' ⟨rfl, hw⟩
            obtain rfl := hw.symm
            go_wp2_with fail
            go_at_call 16
            refine SM.mono ?_
            rintro e w7 ⟨rfl, b7⟩
            have bf := b4.trans (b7.mono b4.size)
            have D7 := D4.below b7
            clear A1 A2 SM D4
            go_wp2
            go_meet
            exact ⟨S, t, M, n, v, K, D7, ag, bf⟩
          by_cases c2 : 1099511627776 < x.1
          · have A1 := advance_late D4.c x.1 (by omega) c2
            have A2 := radvance_late D4.r x.1 (by omega) c2
            have SM := DOwn.same (DOwn.nil w4.heap.size w4) (DOwn.nil w4.heap.size w4)
            go_wp2_with fail
            go_at_call 14
            refine A1.mono ?_
            rintro e w' ⟨rfl, hw⟩
            obtain rfl := hw.symm
            go_wp2_with fail
            go_at_call 15
            refine A2.mono ?_
            rintro e w' ⟨rfl, hw⟩
            obtain rfl := hw.symm
            go_wp2_with fail
            go_at_call 16
            refine SM.mono ?_
            rintro e w7 ⟨rfl, b7⟩
            have bf := b4.trans (b7.mono b4.size)
            have D7 := D4.below b7
            clear A1 A2 SM D4
            go_wp2
            go_meet
            exact ⟨S, t, M, n, v, K, D7, ag, bf⟩
          have A1 := advance_ok D4.c x.1 (by omega) (by omega)
          go_wp2_with fail
          go_at_call 14
          refine A1.mono ?_
          rintro e w5 ⟨u5, L5, rfl, O5, hL5, hn5, C5, k5, _⟩
          have q1 := (k5.cell (o := 2) ol nSo).trans o1
          obtain ⟨D5, b5⟩ := D4.wrote C5 k5 (fun _ h => .inl h)
          have A2 := radvance_any D5.r D5.hB ag x.1 (by omega) (by omega)
          have hOf : ∀ g, u5.ownBlock = some g → ¬ Of rb v g := by
            intro g e
            have h5 := (World.ownsRow.lt O5 g e).1
            rintro (e' | e')
            · have := D4.r.lt; omega
            · have := (World.ownsRow.lt D4.r.own g e').2; omega
          clear A1 D4 k5 C5
          go_wp2_with fail
          go_at_call 15
          refine A2.mono ?_
          rintro e w6 ⟨u6, L6, v6, K6, rfl, O6, hL6, R6, ag6, k6, f6⟩
          obtain rfl := hL6.unique hL5 fun y => Iff.rfl
          obtain ⟨D6, b6⟩ := D5.wroteR R6 k6 f6
          have O5' := O5.kept k6 hOf
          have SM := DOwn.same O5' O6
          have b6' := (b4.trans b5).trans b6
          clear A2 D5 O5 O6 O5' k6 f6 R6 b4 b5 b6
          go_wp2_with fail
          go_at_call 16
          refine SM.mono ?_
          rintro e w7 ⟨rfl, b7⟩
          have bf := b6'.trans (b7.mono b6'.size)
          have D7 := D6.below b7
          clear SM D6
          go_wp2
          go_meet
          exact ⟨S, x.1, _, _, v6, K6, D7, ag6, bf⟩
      case rest =>
        obtain ⟨S', t', M', n', v', K', D', ag', b'⟩ := hcut
        clear D ag bk
        have NX := next_any D'.c
        unfold vD at NX
        go_wp2_with fail
        go_at_call 17
        refine NX.mono ?_
        rintro e w5 ⟨x5, bb5, rfl, h5, b5⟩
        have bA : Below w5.heap.size w5 (w5.alloc (.cells #[.int .i64 x5.2, .int .i64 x5.1] 43)) := (Below.refl _ _).alloc (Nat.le_refl _) _
        have D5 := (D'.below b5).below bA
        have b5' := (b'.trans (b5.mono b'.size)).trans (bA.mono (Nat.le_trans b'.size b5.size))
        have RN := rnext_any D5.r ag'
        unfold vD at RN
        clear NX D' b'
        go_wp2_with fail
        go_at_call 18
        refine RN.mono ?_
        rintro e w6 ⟨x6, bb6, rfl, h6, b6⟩
        obtain ⟨rfl, rfl⟩ := next_same h5 h6
        obtain rfl := ag'.len
        have z0 : w6.cell? ⟨w5.heap.size, 0, none⟩ = some (.int .i64 x6.2) := (b6.cell (p := ⟨w5.heap.size, 0, none⟩) (by simp)).trans (by simp [go_sem])
        have z1 : w6.cell? ⟨w5.heap.size, 1, none⟩ = some (.int .i64 x6.1) := (b6.cell (p := ⟨w5.heap.size, 1, none⟩) (by simp)).trans (by simp [go_sem])
        have hs6 : w5.heap.size < w6.heap.size := Nat.lt_of_lt_of_le (by simp) b6.size
        obtain ⟨w7, hw7⟩ : ∃ w7, w7 = w6.alloc (.cells #[.int .i64 x6.2, .int .i64 x6.1] 43) := ⟨_, rfl⟩
        have bB : Below w6.heap.size w6 w7 := hw7 ▸ (Below.refl _ _).alloc (Nat.le_refl _) _
        have y0 : w7.cell? ⟨w6.heap.size, 0, none⟩ = some (.int .i64 x6.2) := by rw [hw7]; simp [go_sem]
        have y1 : w7.cell? ⟨w6.heap.size, 1, none⟩ = some (.int .i64 x6.1) := by rw [hw7]; simp [go_sem]
        have z0' := (bB.cell (p := ⟨w5.heap.size, 0, none⟩) hs6).trans z0
        have z1' := (bB.cell (p := ⟨w5.heap.size, 1, none⟩) hs6).trans z1
        have D7 := (D5.below b6).below bB
        have b7 := (b5'.trans (b6.mono b5'.size)).trans (bB.mono (Nat.le_trans b5'.size b6.size))
        have NW := fun q => now_any (D7.c.below (below_drewN w7 q))
        have LF := fun q => left_any (D7.c.below (below_drewN w7 q))
        have r0 := D7.r.c0
        have r1 := D7.r.c1
        obtain ⟨va, vc, rfl, _⟩ := D7.r.own.form
        have D8 := fun q => D7.below (below_drewN w7 q)
        clear RN D5 b5 b5' b6 bA bB z0 z1 h5 h6 D7
        go_wp2_with fail
        rw [← hw7]
        clear hw7
        generalize w6.heap.size = B6 at *
        generalize w5.heap.size = B5 at *
        go_big_quiet (first
          | (go_at_call 19; exact Calls.quiet_of_same (NW _))
          | (go_at_call 20; exact Calls.quiet_of_same (LF _)))
        clear NW LF
        go_wp2
        go_roundg (300 - (k + 1))
        case measure => omega
        case rel => exact ⟨k + 1, by omega, by omega, Nat.le_refl _, by go_num, S', t', M', _, _, K', D8 _, ag', ⟨b7.os, b7.tape, b7.output, b7.size, b7.block⟩⟩
    · rcases (by omega : ¬ (k : Int) < (n0 : Int) ∨ (k : Int) < (n0 : Int) ∧ ¬ (k : Int) < 300) with q1 | ⟨q1, q2⟩
      all_goals
        clear hr hwf hlt
        go_wp2
        go_ret
        exact ⟨rfl, bk⟩
end Go.Proofs.Ythamaiibknmeeaa
