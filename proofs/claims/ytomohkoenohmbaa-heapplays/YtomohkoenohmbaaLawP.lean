/-
  The walk of the statement 'HeapPlays'. Conditions: the script lies in memory.
-/
import Derived.Test.YtomohkoenohmbaaWalkT
import Derived.Deep.CutRange
import Derived.Deep.CutBlock
import Derived.Deep.DeepCutAuto
import Derived.Deep.LoopGhost
namespace Go.Proofs.Ytomohkoenohmbaa
open Go.RowKit Go.Lib Go.Sort Go.Maps

/-- The heap, and the list of the reference beside it: they have the same items. -/
def Play (w0 : World) (hb : Nat) (w : World) (v : Value) (n : Nat) : Prop :=
  ∃ (a : Option Addr) (cap : Nat) (L : List (Int × Int)) (M : Int × Int → Prop) (S : Nat → Prop), v = .slice a n cap ∧ RL S w a n cap L ∧ ListOf L M ∧ HeapIs w hb S M n ∧ (∀ k, S k → w0.heap.size ≤ k) ∧ Below w0.heap.size w0 w

theorem kept_drewN (w : World) (q : Nat) : Kept (fun _ => False) w (w.drewN q) := ⟨rfl, rfl, rfl, Nat.le_refl _, fun _ _ _ => rfl⟩

set_option maxRecDepth 20000 in
set_option maxHeartbeats 8000000 in
theorem plays_any (a : Option Addr) (n cap : Nat) (f : Nat → Int × (Int × Int)) (w : World) (hr : RowO w a n f) (hwf : ∀ k, k < n → WfO (f k)) (hn : n ≤ 9223372036854775807) :
    Calls Try.prog 3 #[.slice a n cap] w fun e w' => e = .returned (.bool true) ∧ Below w.heap.size w w' := by
  have A := awake_any w
  go_enter Try.func3, Try.ntmps3
  go_wp2_with fail
  go_at_call 8
  refine A.mono ?_
  rintro e w1 ⟨rfl, b1⟩
  have N := new_any w1
  clear A
  go_wp2_with fail
  go_at_call 9
  refine N.mono ?_
  rintro e w2 ⟨hb, S, rfl, H2, hS2, b2⟩
  have bb : Below w.heap.size w w2 := b1.trans (b2.mono b1.size)
  have P2 : Play w hb w2 (.slice none 0 0) 0 := ⟨none, 0, [], fun _ => False, S, rfl, RL.none S w2, ⟨List.Pairwise.nil, fun y => ⟨fun h => (by cases h), fun h => h.elim⟩⟩, H2, fun k hk => Nat.le_trans b1.size (hS2 k hk), bb⟩
  clear N b1 b2 H2 hS2 bb
  go_wp2_with fail
  go_loopg [4, 5] 300 (fun g u v wr => ∃ (k m : Nat), k ≤ 300 ∧ m ≤ k ∧ k ≤ n ∧ 300 - k ≤ g ∧ v = .int .i64 k ∧ Play w hb wr u m)
  case atStart => exact ⟨0, 0, by omega, by omega, by omega, by omega, rfl, P2⟩
  case round =>
    obtain ⟨k, m, hk, hm, hkn, hg, rfl, P⟩ := hrel
    clear P2
    obtain ⟨la, lc, L, M, S, rfl, R, O, HI, hSB, bk⟩ := P
    by_cases hlt : k < n ∧ k < 300
    · obtain ⟨hl1, hl2⟩ := hlt
      obtain ⟨hwd, hwx⟩ := hwf k hl1
      obtain ⟨b, off, rfl, hb1, hc⟩ := hr (by omega)
      obtain ⟨c0, c1, c2⟩ := hc k hl1
      have d0 := (bk.cell (p := ⟨b, off + k * 3, none⟩) hb1).trans c0
      have d1 := (bk.cell (p := ⟨b, off + k * 3 + 1, none⟩) hb1).trans c1
      have d2 := (bk.cell (p := ⟨b, off + k * 3 + 2, none⟩) hb1).trans c2
      have i1 : (k : Int) < (n : Int) := by omega
      have i2 : (k : Int) < 300 := by omega
      clear hc hwf hr c0 c1 c2
      generalize f k = y at *
      obtain ⟨op, x⟩ := y
      dsimp only at d0 d1 d2 hwd hwx
      obtain ⟨t, ht⟩ : ∃ t : Nat, (IntKind.u64.wrap op).tmod 6 = (t : Int) ∧ t < 6 := by
        refine ⟨((IntKind.u64.wrap op) % 6).toNat, ?_⟩
        have h0 : 0 ≤ IntKind.u64.wrap op := by rw [IntKind.wrap_u64]; omega
        rw [Int.tmod_eq_emod_of_nonneg h0]
        omega
      obtain ⟨ht1, ht2⟩ := ht
      go_upto_block 2 with fail
      go_cut [4, 7, 8, 9, 10, 11, 12] from 18 to 178 (fun s4 _ _ _ _ _ _ wx => ∃ m', m' ≤ k + 1 ∧ Play w hb wx s4 m')
      case first =>
        have hid : ∀ y z, M y → M z → y.2 = z.2 → y = z := fun y z a b c => HI.ids a b c
        obtain ⟨w3, hw3⟩ : ∃ w3, w3 = wr.alloc (.cells #[.int .i64 op, .int .u64 x.1, .int .i64 x.2] 31) := ⟨_, rfl⟩
        have bA : Below wr.heap.size wr w3 := hw3 ▸ (Below.refl _ _).alloc (Nat.le_refl _) _
        have o0 : w3.cell? ⟨wr.heap.size, 1, none⟩ = some (.int .u64 x.1) := by rw [hw3]; simp [go_sem]
        have o1 : w3.cell? ⟨wr.heap.size, 2, none⟩ = some (.int .i64 x.2) := by rw [hw3]; simp [go_sem]
        have ol : wr.heap.size < w3.heap.size := by rw [hw3]; simp
        have nSo : ¬ S wr.heap.size := fun h => by have := HI.2.2.1 _ h; omega
        have R3 := R.below bA
        have H3 := HI.below bA
        have b3 := bk.trans (bA.mono bk.size)
        rw [← hw3]
        clear hw3 bA R HI bk d0 d1 d2 ht1
        generalize wr.heap.size = OB at *
        rcases (by omega : t = 0 ∨ t = 1 ∨ t = 2 ∨ t = 3 ∨ t = 4 ∨ t = 5) with rfl | rfl | rfl | rfl | rfl | rfl
        · by_cases hin : ∃ y, M y ∧ y.2 = x.2
          · obtain ⟨y, hy, ey⟩ := hin
            have P1 := ref_twice R3 O hid (by omega) x y hy ey
            unfold vI at P1
            go_wp2_with fail
            go_at_call 10
            refine P1.mono ?_
            rintro e w4 ⟨rfl, c4⟩
            have q0 := (c4.cell (p := ⟨OB, 1, none⟩) ol).trans o0
            have q1 := (c4.cell (p := ⟨OB, 2, none⟩) ol).trans o1
            have H4 := H3.below c4
            have P2 := push_twice H4 x y hwx hy ey
            unfold vI at P2
            clear P1
            go_wp2_with fail
            go_at_call 11
            refine P2.mono ?_
            rintro e w5 ⟨rfl, c5⟩
            have b5 := (b3.trans (c4.mono b3.size)).trans (c5.mono (Nat.le_trans b3.size c4.size))
            go_wp2
            go_meet
            exact ⟨m, by omega, _, lc, L, M, S, rfl, (R3.below c4).below c5, O, H4.below c5, hSB, b5⟩
          · have hno : ∀ y, M y → y.2 ≠ x.2 := fun y hy e => hin ⟨y, hy, e⟩
            have P1 := ref_push R3 O H3.2.2.1 (by omega) x hno
            unfold vI at P1
            go_wp2_with fail
            go_at_call 10
            refine P1.mono ?_
            rintro e w4 ⟨a4, lc4, L4, rfl, R4, O4, c4⟩
            have q0 := (c4.cell (p := ⟨OB, 1, none⟩) ol).trans o0
            have q1 := (c4.cell (p := ⟨OB, 2, none⟩) ol).trans o1
            have H4 := H3.below c4
            have P2 := push_ok H4 (by omega) x hwx hno
            unfold vI at P2
            clear P1
            go_wp2_with fail
            go_at_call 11
            refine P2.mono ?_
            rintro e w5 ⟨rfl, S5, H5, k5, p5⟩
            have b4 := b3.trans (c4.mono b3.size)
            have R5 : RL S5 w5 a4 (m + 1) lc4 L4 := R4.kept k5 (fun b hb hs => ⟨hs, fun h => by
              rcases p5 b h with e | e
              · exact hs e
              · omega⟩)
            have b5 := b4.trans (k5.below b4.size hSB)
            have hS5 : ∀ k, S5 k → w.heap.size ≤ k := fun k hk => by
              rcases p5 k hk with e | e
              · exact hSB k e
              · exact Nat.le_trans b4.size e
            go_wp2
            go_meet
            exact ⟨m + 1, by omega, _, lc4, L4, _, S5, rfl, R5, O4, H5, hS5, b5⟩
        · by_cases hp : 0 < m
          · have P1 := pop_some H3 hp
            unfold vI at P1
            have hp' : (0 : Int) < (m : Int) := by omega
            have hgt : decide ((0 : Int) < (m : Int)) = true := decide_eq_true hp'
            go_wp2_with fail
            go_at_call 12
            refine P1.mono ?_
            rintro e w4 ⟨x0, rfl, hx0, H4, k4⟩
            have R4 : RL S w4 la m lc L := R3.kept k4 (fun b hb hs => ⟨hs, hs⟩)
            have b4 := b3.trans (k4.below b3.size hSB)
            have bA : Below w4.heap.size w4 (w4.alloc (.cells #[.int .u64 x0.1, .int .i64 x0.2] 29)) := (Below.refl _ _).alloc (Nat.le_refl _) _
            have H5 := H4.below bA
            have R5 := R4.below bA
            have b5 := b4.trans (bA.mono b4.size)
            have eh := head_least O R5.len hp hx0
            obtain ⟨L1, rfl⟩ : ∃ L1, L = x0 :: L1 := by
              have hl := R5.len
              cases L with
              | nil => simp at hl; omega
              | cons z L1 => exact ⟨L1, by rw [← eh]; rfl⟩
            have O5 : ListOf L1 (fun z => M z ∧ z.2 ≠ x0.2) := O.out hid (k := 0) (by simp)
            obtain ⟨lb, loff, rfl, hlb, _, hlc⟩ := R4.row hp
            obtain ⟨e0, e1⟩ := hlc 0 hp
            simp only [Nat.zero_mul, Nat.add_zero, List.getD_cons_zero] at e0 e1
            have hle := R5.le
            have hroom := R5.room
            have hcm : lc ≤ 9223372036854775807 := by unfold maxLen at hroom; omega
            have hlc1 : (1 : Int) ≤ (lc : Int) := by omega
            have hlm1 : (1 : Int) ≤ (m : Int) := by omega
            clear P1 hlc k4 R4 eh
            by_cases hc1 : lc = 1
            · obtain rfl : m = 1 := by omega
              subst hc1
              have R6 := R5.tail0
              go_wp2_with fail
              go_quiet (fail)
              go_wp2
              go_meet
              exact ⟨0, by omega, _, 0, L1, _, S, rfl, ⟨R6.len, R6.nil, R6.le, R6.room, R6.spot, R6.row⟩, O5, H5.kept (kept_drewN _ _) (fun _ _ => id), hSB, ⟨b5.os, b5.tape, b5.output, b5.size, b5.block⟩⟩
            · have R6 := R5.tail hp
              go_wp2_with fail
              go_quiet (fail)
              go_wp2
              go_meet
              exact ⟨m - 1, by omega, _, lc - 1, L1, _, S, rfl, ⟨R6.len, R6.nil, R6.le, R6.room, R6.spot, R6.row⟩, O5, H5.kept (kept_drewN _ _) (fun _ _ => id), hSB, ⟨b5.os, b5.tape, b5.output, b5.size, b5.block⟩⟩
          · obtain rfl : m = 0 := by omega
            have P1 := pop_none H3
            unfold vI at P1
            go_wp2_with fail
            go_at_call 12
            refine P1.mono ?_
            rintro e w4 ⟨rfl, c4⟩
            have bA : Below w4.heap.size w4 (w4.alloc (.cells #[.int .u64 0, .int .i64 0] 29)) := (Below.refl _ _).alloc (Nat.le_refl _) _
            have H5 := (H3.below c4).below bA
            have R5 := (R3.below c4).below bA
            have b5 := (b3.trans (c4.mono b3.size)).trans (bA.mono (Nat.le_trans b3.size c4.size))
            clear P1
            go_wp2_with fail
            go_quiet (fail)
            go_wp2
            go_meet
            exact ⟨0, by omega, _, lc, L, _, S, rfl, ⟨R5.len, R5.nil, R5.le, R5.room, R5.spot, R5.row⟩, O, H5.kept (kept_drewN _ _) (fun _ _ => id), hSB, ⟨b5.os, b5.tape, b5.output, b5.size, b5.block⟩⟩
        · by_cases hin : ∃ y, M y ∧ y.2 = x.2
          · obtain ⟨y, hy, ey⟩ := hin
            have P1 := ref_remove R3 O hid H3.2.2.1 (by omega) y hy
            rw [ey] at P1
            go_wp2_with fail
            go_at_call 13
            refine P1.mono ?_
            rintro e w4 ⟨a4, lc4, L4, rfl, R4, O4, h0, c4⟩
            have q1 := (c4.cell (p := ⟨OB, 2, none⟩) ol).trans o1
            have H4 := H3.below c4
            have P2 := remove_some H4 y hy
            rw [ey] at P2
            clear P1
            go_wp2_with fail
            go_at_call 14
            refine P2.mono ?_
            rintro e w5 ⟨rfl, H5, k5⟩
            have b4 := b3.trans (c4.mono b3.size)
            have R5 : RL S w5 a4 (m - 1) lc4 L4 := R4.kept k5 (fun b hb hs => ⟨hs, hs⟩)
            have b5 := b4.trans (k5.below b4.size hSB)
            go_wp2
            go_meet
            exact ⟨m - 1, by omega, _, lc4, L4, _, S, rfl, R5, O4, H5, hSB, b5⟩
          · have hno : ∀ y, M y → y.2 ≠ x.2 := fun y hy e => hin ⟨y, hy, e⟩
            have P1 := ref_gone R3 O (by omega) x.2 hno
            have P2 := remove_none H3 x.2 hwx.2 hno
            go_wp2_with (first
              | (go_at_call 13; refine P1.mono ?_; rintro e w' ⟨rfl, hw⟩; obtain rfl := hw.symm)
              | (go_at_call 14; refine P2.mono ?_; rintro e w' ⟨rfl, hw⟩; obtain rfl := hw.symm))
            go_meet
            exact ⟨m, by omega, _, lc, L, M, S, rfl, R3, O, H3, hSB, b3⟩
        · by_cases hin : ∃ y, M y ∧ y.2 = x.2
          · obtain ⟨y, hy, ey⟩ := hin
            have P1 := ref_change R3 O hid H3.2.2.1 (by omega) x y hy ey
            unfold vI at P1
            go_wp2_with fail
            go_at_call 15
            refine P1.mono ?_
            rintro e w4 ⟨a4, lc4, L4, rfl, R4, O4, c4⟩
            have q0 := (c4.cell (p := ⟨OB, 1, none⟩) ol).trans o0
            have q1 := (c4.cell (p := ⟨OB, 2, none⟩) ol).trans o1
            have H4 := H3.below c4
            have P2 := change_some H4 x y hwx hy ey.symm
            unfold vI at P2
            clear P1
            go_wp2_with fail
            go_at_call 16
            refine P2.mono ?_
            rintro e w5 ⟨rfl, H5, k5⟩
            have b4 := b3.trans (c4.mono b3.size)
            have R5 : RL S w5 a4 m lc4 L4 := R4.kept k5 (fun b hb hs => ⟨hs, hs⟩)
            have b5 := b4.trans (k5.below b4.size hSB)
            go_wp2
            go_meet
            exact ⟨m, by omega, _, lc4, L4, _, S, rfl, R5, O4, H5, hSB, b5⟩
          · have hno : ∀ y, M y → y.2 ≠ x.2 := fun y hy e => hin ⟨y, hy, e⟩
            have P1 := ref_changeNone R3 O (by omega) x hno
            unfold vI at P1
            go_wp2_with fail
            go_at_call 15
            refine P1.mono ?_
            rintro e w4 ⟨rfl, c4⟩
            have q0 := (c4.cell (p := ⟨OB, 1, none⟩) ol).trans o0
            have q1 := (c4.cell (p := ⟨OB, 2, none⟩) ol).trans o1
            have H4 := H3.below c4
            have P2 := change_none H4 x hwx hno
            unfold vI at P2
            clear P1
            go_wp2_with fail
            go_at_call 16
            refine P2.mono ?_
            rintro e w5 ⟨rfl, c5⟩
            have b5 := (b3.trans (c4.mono b3.size)).trans (c5.mono (Nat.le_trans b3.size c4.size))
            go_wp2
            go_meet
            exact ⟨m, by omega, _, lc, L, M, S, rfl, (R3.below c4).below c5, O, H4.below c5, hSB, b5⟩
        · by_cases hin : ∃ y, M y ∧ y.2 = x.2
          · obtain ⟨y, hy, ey⟩ := hin
            obtain ⟨p, hp, e1, e2⟩ := O.index hid hy
            rw [R3.len] at hp
            have P1 := get_some H3 y hy
            unfold vI at P1
            rw [ey] at P1
            go_wp2_with fail
            go_at_call 17
            refine P1.mono ?_
            rintro e w4 ⟨rfl, c4⟩
            have bA : Below w4.heap.size w4 (w4.alloc (.cells #[.int .u64 y.1, .int .i64 x.2] 29)) := (Below.refl _ _).alloc (Nat.le_refl _) _
            have q1 := (c4.cell (p := ⟨OB, 2, none⟩) ol).trans o1
            have ol4 := Nat.lt_of_lt_of_le ol c4.size
            have H5 := (H3.below c4).below bA
            have R5 := (R3.below c4).below bA
            have b5 := (b3.trans (c4.mono b3.size)).trans (bA.mono (Nat.le_trans b3.size c4.size))
            have P2 := rfind_hit la m lc _ x.2 _ R5.toRow (by omega) p hp (by rw [e1]; exact ey) (fun k hk => by rw [← ey]; exact e2 k hk)
            obtain ⟨lb, loff, rfl, hlb, _, hlc⟩ := (R3.below c4).row (by omega)
            obtain ⟨f0, f1⟩ := hlc p hp
            rw [e1] at f0 f1
            rw [ey] at f1
            have hp' : (p : Int) < (m : Int) := by omega
            have hge : decide ((0 : Int) ≤ (p : Int)) = true := decide_eq_true (by omega)
            clear P1 hlc e1 e2
            go_wp2_with (go_at_call 18; refine P2.mono ?_; rintro e w' ⟨rfl, hw⟩; obtain rfl := hw.symm)
            go_quiet (fail)
            go_wp2
            go_meet
            exact ⟨m, by omega, _, lc, L, _, S, rfl, ⟨R5.len, R5.nil, R5.le, R5.room, R5.spot, R5.row⟩, O, H5.kept (kept_drewN _ _) (fun _ _ => id), hSB, ⟨b5.os, b5.tape, b5.output, b5.size, b5.block⟩⟩
          · have hno : ∀ y, M y → y.2 ≠ x.2 := fun y hy e => hin ⟨y, hy, e⟩
            have P1 := get_none H3 x.2 hwx.2 hno
            unfold vI at P1
            go_wp2_with fail
            go_at_call 17
            refine P1.mono ?_
            rintro e w4 ⟨rfl, c4⟩
            have bA : Below w4.heap.size w4 (w4.alloc (.cells #[.int .u64 0, .int .i64 0] 29)) := (Below.refl _ _).alloc (Nat.le_refl _) _
            have q1 := (c4.cell (p := ⟨OB, 2, none⟩) ol).trans o1
            have ol4 := Nat.lt_of_lt_of_le ol c4.size
            have H5 := (H3.below c4).below bA
            have R5 := (R3.below c4).below bA
            have b5 := (b3.trans (c4.mono b3.size)).trans (bA.mono (Nat.le_trans b3.size c4.size))
            have P2 := rfind_miss la m lc _ x.2 _ R5.toRow (by omega) (R5.miss O hno)
            clear P1
            go_wp2_with (go_at_call 18; refine P2.mono ?_; rintro e w' ⟨rfl, hw⟩; obtain rfl := hw.symm)
            go_quiet (fail)
            go_wp2
            go_meet
            exact ⟨m, by omega, _, lc, L, _, S, rfl, ⟨R5.len, R5.nil, R5.le, R5.room, R5.spot, R5.row⟩, O, H5.kept (kept_drewN _ _) (fun _ _ => id), hSB, ⟨b5.os, b5.tape, b5.output, b5.size, b5.block⟩⟩
        · have P1 := list_any H3
          go_wp2_with fail
          go_at_call 20
          refine P1.mono ?_
          rintro e w4 ⟨a4, lc4, L4, rfl, A4, O4, c4⟩
          have eL : L4 = L := O4.unique O (fun _ => Iff.rfl)
          have R4 := R3.below c4
          have SM := same_yes a4 la m lc4 lc _ _ w4 A4.row R4.toRow (by omega) (fun k _ => by rw [eL])
          have H4 := H3.below c4
          clear P1
          go_wp2_with (go_at_call 19; refine SM.mono ?_; rintro e w5 ⟨rfl, c5⟩)
          have b5 := (b3.trans (c4.mono b3.size)).trans (c5.mono (Nat.le_trans b3.size c4.size))
          go_meet
          exact ⟨m, by omega, _, lc, L, M, S, rfl, R4.below c5, O, H4.below c5, hSB, b5⟩
      case rest =>
        obtain ⟨m', hm', la', lc', L', M', S', rfl, R', O', H', hS', b'⟩ := hcut
        by_cases hp : 0 < m'
        · have P := peek_some H' hp
          unfold vI at P
          have hp' : (0 : Int) < (m' : Int) := by omega
          have hgt : decide ((0 : Int) < (m' : Int)) = true := decide_eq_true hp'
          have hne : ((m' : Int) != (m' : Int)) = false := by simp
          go_wp2_with fail
          go_at_call 21
          refine P.mono ?_
          rintro e w5 ⟨x0, rfl, hx0, b5⟩
          have bA : Below w5.heap.size w5 (w5.alloc (.cells #[.int .u64 x0.1, .int .i64 x0.2] 29)) := (Below.refl _ _).alloc (Nat.le_refl _) _
          have H5 := (H'.below b5).below bA
          have R5 := (R'.below b5).below bA
          have bw := (b'.trans (b5.mono b'.size)).trans (bA.mono (Nat.le_trans b'.size b5.size))
          have LN := fun q => len_any (H5.kept (kept_drewN _ q) (fun _ _ => id))
          obtain ⟨lb, loff, rfl, hlb, _, hlc⟩ := R5.row hp
          have e0 := (hlc 0 hp).1
          have e1 := (hlc 0 hp).2
          rw [head_least O' R5.len hp hx0] at e0 e1
          simp only [Nat.zero_mul, Nat.add_zero] at e0 e1
          have hlb5 : lb < w5.heap.size := by
            obtain ⟨_, _, ee, hh, _, _⟩ := (R'.below b5).row hp
            cases ee
            exact hh
          clear P b5 hlc R' H' b'
          go_wp2_with fail
          go_quiet ((go_at_call 22; exact Calls.quiet_of_same (LN _)))
          clear LN e0 e1
          go_wp2
          go_roundg (300 - (k + 1))
          case measure => omega
          case rel => exact ⟨k + 1, m', by omega, by omega, by omega, Nat.le_refl _, by go_num, _, lc', L', M', S', rfl, ⟨R5.len, R5.nil, R5.le, R5.room, R5.spot, R5.row⟩, O', H5.kept (kept_drewN _ _) (fun _ _ => id), hS', ⟨bw.os, bw.tape, bw.output, bw.size, bw.block⟩⟩
        · obtain rfl : m' = 0 := by omega
          have P := peek_none H'
          unfold vI at P
          go_wp2_with fail
          go_at_call 21
          refine P.mono ?_
          rintro e w5 ⟨rfl, b5⟩
          have bA : Below w5.heap.size w5 (w5.alloc (.cells #[.int .u64 0, .int .i64 0] 29)) := (Below.refl _ _).alloc (Nat.le_refl _) _
          have H5 := (H'.below b5).below bA
          have R5 := (R'.below b5).below bA
          have bw := (b'.trans (b5.mono b'.size)).trans (bA.mono (Nat.le_trans b'.size b5.size))
          have LN := fun q => len_any (H5.kept (kept_drewN _ q) (fun _ _ => id))
          clear P b5 R' H' b'
          go_wp2_with fail
          go_quiet ((go_at_call 22; exact Calls.quiet_of_same (LN _)))
          clear LN
          go_wp2
          go_roundg (300 - (k + 1))
          case measure => omega
          case rel => exact ⟨k + 1, 0, by omega, by omega, by omega, Nat.le_refl _, by go_num, _, lc', L', M', S', rfl, ⟨R5.len, R5.nil, R5.le, R5.room, R5.spot, R5.row⟩, O', H5.kept (kept_drewN _ _) (fun _ _ => id), hS', ⟨bw.os, bw.tape, bw.output, bw.size, bw.block⟩⟩
    · rcases (by omega : ¬ (k : Int) < (n : Int) ∨ (k : Int) < (n : Int) ∧ ¬ (k : Int) < 300) with q1 | ⟨q1, q2⟩
      all_goals
        have P1 := list_any HI
        clear hr hwf hlt
        go_wp2_with fail
        go_at_call 20
        refine P1.mono ?_
        rintro e w4 ⟨a4, lc4, L4, rfl, A4, O4, c4⟩
        have eL : L4 = L := O4.unique O (fun _ => Iff.rfl)
        have R4 := R.below c4
        have SM := same_yes a4 la m lc4 lc _ _ w4 A4.row R4.toRow (by omega) (fun k _ => by rw [eL])
        clear P1
        go_wp2_with (go_at_call 19; refine SM.mono ?_; rintro e w5 ⟨rfl, c5⟩)
        go_ret
        exact ⟨rfl, (bk.trans (c4.mono bk.size)).trans (c5.mono (Nat.le_trans bk.size c4.size))⟩
end Go.Proofs.Ytomohkoenohmbaa
