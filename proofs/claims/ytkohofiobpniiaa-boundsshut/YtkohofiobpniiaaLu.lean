/-
  The walk of 'BoundsShut'. Conditions: the levels lie in memory, and are no more than memory holds.
-/
import Derived.Test.YtkohofiobpniiaaMth
namespace Go.Proofs.Ytkohofiobpniiaa
open Go.RowKit

set_option maxRecDepth 20000 in
set_option maxHeartbeats 4000000 in
theorem shut_law (total : Int) (a : Option Addr) (n cap : Nat) (l : Nat → Lv) (w : World) (hr : LvR w a n l) (hn : n ≤ 17592186044416) :
    Calls Try.prog 5 #[.int .i64 total, .slice a n cap] w fun e w' => e = .returned (.bool true) ∧ Below w.heap.size w w' := by
  have I := awake_ok w
  have HR : Hd (∀ W, Below w.heap.size w W → Calls Try.prog 8 #[.int .i64 total, .slice a n cap] W fun e w' => BRes W total n l e w') := ⟨fun W b => bounds_ok total a n cap l W (hr.carry b) hn⟩
  have HV : Hd (LvR w a n l) := ⟨hr⟩
  clear hr
  go_enter Try.func5, Try.ntmps5
  go_wp2_with fail
  go_at_call 7
  refine I.mono ?_
  rintro e w1 ⟨rfl, b1⟩
  clear I
  have J := HR.out w1 b1
  clear HR
  go_wp2_with fail
  go_at_call 8
  refine J.mono ?_
  rintro e w2 hres
  clear J
  have B2 : Hd (Below w.heap.size w w2) := ⟨b1.trans (hres.bel.mono b1.size)⟩
  clear b1
  rcases hres.ex with ⟨hf, hi, ac, c, rfl, hb⟩ | ⟨-, -, rfl⟩ | ⟨hz, rfl⟩
  · have HF : Hd (Fits total n (shr l)) := ⟨hf⟩
    have HI : Hd (∀ k, k < n → InR (l k)) := ⟨hi⟩
    have hlen := hf.len
    have hpos := hf.pos
    clear hres hf hi
    obtain ⟨bb, off, rfl, hbl, hc⟩ := hb hpos
    obtain ⟨lb, lof, rfl, -, -⟩ := HV.out hpos
    have HC : Hd (∀ W, Below w2.heap.size w2 W → ∀ k, k < n → (W.cell? ⟨bb, off + k * 3, none⟩ = some (.int .i64 (bds total n l k).nom) ∧ W.cell? ⟨bb, off + k * 3 + 1, none⟩ = some (.int .i64 (bds total n l k).mn) ∧ W.cell? ⟨bb, off + k * 3 + 2, none⟩ = some (.int .i64 (bds total n l k).mx)) ∧ W.cell? ⟨lb, lof + k * 10 + 2, none⟩ = some (.int .i64 (l k).shares) ∧ W.cell? ⟨lb, lof + k * 10 + 3, none⟩ = some (.int .i64 (l k).lend) ∧ W.cell? ⟨lb, lof + k * 10 + 4, none⟩ = some (.int .i64 (l k).borrow)) := ⟨fun W b k hk => by
      obtain ⟨h0, h1, h2⟩ := hc k hk
      obtain ⟨lb', lof', e', hlb, -, -, y2, y3, y4, -⟩ := HV.out.at hk
      injection e' with e'
      injection e' with e1 e2
      subst e1 e2
      have hlb2 := Nat.lt_of_lt_of_le hlb B2.out.size
      exact ⟨⟨(b.cell (p := ⟨bb, off + k * 3, none⟩) hbl).trans h0, (b.cell (p := ⟨bb, off + k * 3 + 1, none⟩) hbl).trans h1, (b.cell (p := ⟨bb, off + k * 3 + 2, none⟩) hbl).trans h2⟩, (b.cell (p := ⟨lb, lof + k * 10 + 2, none⟩) hlb2).trans ((B2.out.cell (p := ⟨lb, lof + k * 10 + 2, none⟩) hlb).trans y2), (b.cell (p := ⟨lb, lof + k * 10 + 3, none⟩) hlb2).trans ((B2.out.cell (p := ⟨lb, lof + k * 10 + 3, none⟩) hlb).trans y3), (b.cell (p := ⟨lb, lof + k * 10 + 4, none⟩) hlb2).trans ((B2.out.cell (p := ⟨lb, lof + k * 10 + 4, none⟩) hlb).trans y4)⟩⟩
    clear hb hc hbl HV
    go_wp2_with fail
    go_loopw [7] (fun i wr => ∃ k : Nat, k ≤ n ∧ i = .int .i64 k ∧ Below w2.heap.size w2 wr) (fun i _ => n - (intOf i).toNat)
    case atStart => exact ⟨0, Nat.zero_le _, rfl, Below.refl _ _⟩
    case round =>
      obtain ⟨k, hk, rfl, p3⟩ := hrel
      by_cases hlt : k < n
      · have P : Hd (Below w2.heap.size w2 wr) := ⟨p3⟩
        clear p3
        go_upto_region 9 with fail
        have Q : Hd (Below w2.heap.size w2 wr.drew) := ⟨P.out.drew⟩
        have hT := HC.out wr.drew Q.out k hlt
        have SH := bd_shut (total := total) (p := part total n (shr l) k) (HI.out k hlt) (part_le HF.out hlt)
        have SE : bdOf total (part total n (shr l) k) (l k) = bds total n l k := rfl
        rw [SE] at SH
        clear SE P HC
        generalize (l k).shares = x2 at *
        generalize (l k).lend = x3 at *
        generalize (l k).borrow = x4 at *
        generalize bds total n l k = z at *
        obtain ⟨z0, z1, z2⟩ := z
        obtain ⟨s1, s2, s3, s4⟩ := SH
        have S1 : Hd (x3 = 0 → z1 = z0) := ⟨s1⟩
        have S2 : Hd (x3 = 100 → z1 = 0) := ⟨s2⟩
        have S3 : Hd (x4 = 0 → z2 = z0) := ⟨s3⟩
        have S4 : Hd (x4 = -1 → z2 = total) := ⟨s4⟩
        clear s1 s2 s3 s4
        simp only at hT
        have CL : x3 = 0 ∨ x3 = 100 ∨ (x3 ≠ 0 ∧ x3 ≠ 100) := by omega
        have CB : x4 = 0 ∨ x4 = -1 ∨ (x4 ≠ 0 ∧ x4 ≠ -1) := by omega
        refine AnyG.start (T := fun W => (W.cell? ⟨bb, off + k * 3, none⟩ = some (.int .i64 z0) ∧ W.cell? ⟨bb, off + k * 3 + 1, none⟩ = some (.int .i64 z1) ∧ W.cell? ⟨bb, off + k * 3 + 2, none⟩ = some (.int .i64 z2)) ∧ W.cell? ⟨lb, lof + k * 10 + 2, none⟩ = some (.int .i64 x2) ∧ W.cell? ⟨lb, lof + k * 10 + 3, none⟩ = some (.int .i64 x3) ∧ W.cell? ⟨lb, lof + k * 10 + 4, none⟩ = some (.int .i64 x4)) (U := fun _ => True) (j0 := 200) (by kernel_rfl) ?_
        generalize wr.drew = wd at *
        refine .tq 0 33 hT ?_; simp only [tkA, tkB, tkC]
        refine .tq 1 34 hT ?_; simp only [tkA, tkB, tkC]
        refine .tq 2 35 hT ?_; simp only [tkA, tkB, tkC]
        refine .tq 3 36 hT ?_; simp only [tkA, tkB, tkC]
        refine .tq 4 37 hT ?_ (hy := fun w hSw => by obtain ⟨⟨s0, s1, s2⟩, s3, s4, s5⟩ := hSw; go_simp; rfl); simp only [tkA, tkB, tkC]
        rcases CL with cl | cl | cl
        · have g1 : (x3 == 0) = true := by simpa using cl
          have g2 : (z1 != z0) = false := by simpa using S1.out cl
          have g3 : (x3 == 100) = false := by rw [cl]; rfl
          clear cl S1 S2
          refine .tq (v := .bool true) 5 38 hT ?_ (hy := fun w hSw => by go_simp); simp only [tkA, tkB, tkC]
          refine .tq 6 39 hT ?_; simp only [tkA, tkB, tkC]
          refine .tq 7 40 hT ?_; simp only [tkA, tkB, tkC]
          refine .tq 8 41 hT ?_; simp only [tkA, tkB, tkC]
          refine .tq 9 42 hT ?_; simp only [tkA, tkB, tkC]
          refine .tq 10 43 hT ?_; simp only [tkA, tkB, tkC]
          refine .tq 11 44 hT ?_ (hy := fun w hSw => by obtain ⟨⟨s0, s1, s2⟩, s3, s4, s5⟩ := hSw; go_simp; rfl); simp only [tkA, tkB, tkC]
          refine .tq 12 45 hT ?_; simp only [tkA, tkB, tkC]
          refine .tq 13 46 hT ?_; simp only [tkA, tkB, tkC]
          refine .tq 14 47 hT ?_; simp only [tkA, tkB, tkC]
          refine .tq 15 48 hT ?_; simp only [tkA, tkB, tkC]
          refine .tq 16 49 hT ?_ (hy := fun w hSw => by obtain ⟨⟨s0, s1, s2⟩, s3, s4, s5⟩ := hSw; go_simp; rfl); simp only [tkA, tkB, tkC]
          refine .tq (v := .bool false) 17 50 hT ?_ (hy := fun w hSw => by go_simp); simp only [tkA, tkB, tkC]
          refine .tq 18 51 hT ?_; simp only [tkA, tkB, tkC]
          refine .tq 19 52 hT ?_; simp only [tkA, tkB, tkC]
          refine .tq 20 53 hT ?_; simp only [tkA, tkB, tkC]
          refine .tq 21 54 hT ?_; simp only [tkA, tkB, tkC]
          refine .tq 22 55 hT ?_; simp only [tkA, tkB, tkC]
          refine .tq 23 56 hT ?_; simp only [tkA, tkB, tkC]
          refine .tq 24 57 hT ?_ (hy := fun w hSw => by obtain ⟨⟨s0, s1, s2⟩, s3, s4, s5⟩ := hSw; go_simp; rfl); simp only [tkA, tkB, tkC]
          refine .tq (v := .bool false) 25 58 hT ?_ (hy := fun w hSw => by go_simp); simp only [tkA, tkB, tkC]
          refine .tq 26 59 hT ?_; simp only [tkA, tkB, tkC]
          refine .sq 27 60 hT ?_; simp only [tkA, tkB, tkC]
          refine .sq 28 61 hT ?_; simp only [tkA, tkB, tkC]
          refine .sq 29 62 hT ?_; simp only [tkA, tkB, tkC]
          refine .sq 30 63 hT ?_; simp only [tkA, tkB, tkC]
          refine .sq 31 64 hT ?_; simp only [tkA, tkB, tkC]
          refine .sq 32 65 hT ?_; simp only [tkA, tkB, tkC]
          refine .tq 33 66 hT ?_; simp only [tkA, tkB, tkC]
          refine .tq 34 67 hT ?_; simp only [tkA, tkB, tkC]
          refine .tq 35 68 hT ?_; simp only [tkA, tkB, tkC]
          refine .tq 36 69 hT ?_; simp only [tkA, tkB, tkC]
          refine .tq 37 70 hT ?_; simp only [tkA, tkB, tkC]
          refine .tq 38 71 hT ?_; simp only [tkA, tkB, tkC]
          refine .tq 39 72 hT ?_; simp only [tkA, tkB, tkC]
          refine .tq 40 73 hT ?_ (hy := fun w hSw => by obtain ⟨⟨s0, s1, s2⟩, s3, s4, s5⟩ := hSw; go_simp; rfl); simp only [tkA, tkB, tkC]
          clear g1 g2 g3
          rcases CB with cb | cb | cb
          · have h1 : (x4 == 0) = true := by simpa using cb
            have h2 : (z2 != z0) = false := by simpa using S3.out cb
            have h3 : (x4 == -1) = false := by rw [cb]; rfl
            clear cb S3 S4
            refine .tq (v := .bool true) 41 74 hT ?_ (hy := fun w hSw => by go_simp); simp only [tkA, tkB, tkC]
            refine .tq 42 75 hT ?_; simp only [tkA, tkB, tkC]
            refine .tq 43 76 hT ?_; simp only [tkA, tkB, tkC]
            refine .tq 44 77 hT ?_; simp only [tkA, tkB, tkC]
            refine .tq 45 78 hT ?_; simp only [tkA, tkB, tkC]
            refine .tq 46 79 hT ?_; simp only [tkA, tkB, tkC]
            refine .tq 47 80 hT ?_ (hy := fun w hSw => by obtain ⟨⟨s0, s1, s2⟩, s3, s4, s5⟩ := hSw; go_simp; rfl); simp only [tkA, tkB, tkC]
            refine .tq 48 81 hT ?_; simp only [tkA, tkB, tkC]
            refine .tq 49 82 hT ?_; simp only [tkA, tkB, tkC]
            refine .tq 50 83 hT ?_; simp only [tkA, tkB, tkC]
            refine .tq 51 84 hT ?_; simp only [tkA, tkB, tkC]
            refine .tq 52 85 hT ?_ (hy := fun w hSw => by obtain ⟨⟨s0, s1, s2⟩, s3, s4, s5⟩ := hSw; go_simp; rfl); simp only [tkA, tkB, tkC]
            refine .tq (v := .bool false) 53 86 hT ?_ (hy := fun w hSw => by go_simp); simp only [tkA, tkB, tkC]
            refine .tq 54 87 hT ?_; simp only [tkA, tkB, tkC]
            refine .tq 55 88 hT ?_; simp only [tkA, tkB, tkC]
            refine .tq 56 89 hT ?_; simp only [tkA, tkB, tkC]
            refine .tq 57 90 hT ?_; simp only [tkA, tkB, tkC]
            refine .tq 58 91 hT ?_; simp only [tkA, tkB, tkC]
            refine .tq 59 92 hT ?_; simp only [tkA, tkB, tkC]
            refine .tq 60 93 hT ?_; simp only [tkA, tkB, tkC]
            refine .tq 61 94 hT ?_ (hy := fun w hSw => by obtain ⟨⟨s0, s1, s2⟩, s3, s4, s5⟩ := hSw; go_simp; rfl); simp only [tkA, tkB, tkC]
            refine .tq (v := .bool false) 62 95 hT ?_ (hy := fun w hSw => by go_simp); simp only [tkA, tkB, tkC]
            refine .tq 63 96 hT ?_; simp only [tkA, tkB, tkC]
            refine .sq 64 97 hT ?_; simp only [tkA, tkB, tkC]
            refine .sq 65 98 hT ?_; simp only [tkA, tkB, tkC]
            refine .sq 66 99 hT ?_; simp only [tkA, tkB, tkC]
            refine .sq 67 100 hT ?_; simp only [tkA, tkB, tkC]
            refine .sq 68 101 hT ?_; simp only [tkA, tkB, tkC]
            refine .sq 69 102 hT ?_; simp only [tkA, tkB, tkC]
            refine .sq 70 103 hT ?_; simp only [tkA, tkB, tkC]
            refine .tq 71 104 hT ?_; simp only [tkA, tkB, tkC]
            refine .tq 72 105 hT ?_; simp only [tkA, tkB, tkC]
            refine AnyG.done (by kernel_rfl) ?_ _
            clear hT
            go_wp2_with fail
            go_roundw
            case rel => exact ⟨k + 1, by omega, by go_num, Q.out⟩
            case measure => simp [intOf]; omega
          · have h1 : (x4 == 0) = false := by rw [cb]; rfl
            have h2 : (x4 == -1) = true := by simpa using cb
            have h3 : (z2 != total) = false := by simpa using S4.out cb
            clear cb S3 S4
            refine .tq (v := .bool false) 41 74 hT ?_ (hy := fun w hSw => by go_simp); simp only [tkA, tkB, tkC]
            refine .tq 42 75 hT ?_; simp only [tkA, tkB, tkC]
            refine .sq 43 76 hT ?_; simp only [tkA, tkB, tkC]
            refine .sq 44 77 hT ?_; simp only [tkA, tkB, tkC]
            refine .sq 45 78 hT ?_; simp only [tkA, tkB, tkC]
            refine .sq 46 79 hT ?_; simp only [tkA, tkB, tkC]
            refine .sq 47 80 hT ?_; simp only [tkA, tkB, tkC]
            refine .sq 48 81 hT ?_; simp only [tkA, tkB, tkC]
            refine .sq 49 82 hT ?_; simp only [tkA, tkB, tkC]
            refine .sq 50 83 hT ?_; simp only [tkA, tkB, tkC]
            refine .sq 51 84 hT ?_; simp only [tkA, tkB, tkC]
            refine .sq 52 85 hT ?_; simp only [tkA, tkB, tkC]
            refine .sq 53 86 hT ?_; simp only [tkA, tkB, tkC]
            refine .tq 54 87 hT ?_; simp only [tkA, tkB, tkC]
            refine .tq 55 88 hT ?_; simp only [tkA, tkB, tkC]
            refine .tq 56 89 hT ?_; simp only [tkA, tkB, tkC]
            refine .tq 57 90 hT ?_; simp only [tkA, tkB, tkC]
            refine .tq 58 91 hT ?_; simp only [tkA, tkB, tkC]
            refine .tq 59 92 hT ?_; simp only [tkA, tkB, tkC]
            refine .tq 60 93 hT ?_; simp only [tkA, tkB, tkC]
            refine .tq 61 94 hT ?_ (hy := fun w hSw => by obtain ⟨⟨s0, s1, s2⟩, s3, s4, s5⟩ := hSw; go_simp; rfl); simp only [tkA, tkB, tkC]
            refine .tq (v := .bool true) 62 95 hT ?_ (hy := fun w hSw => by go_simp); simp only [tkA, tkB, tkC]
            refine .tq 63 96 hT ?_; simp only [tkA, tkB, tkC]
            refine .tq 64 97 hT ?_; simp only [tkA, tkB, tkC]
            refine .tq 65 98 hT ?_; simp only [tkA, tkB, tkC]
            refine .tq 66 99 hT ?_; simp only [tkA, tkB, tkC]
            refine .tq 67 100 hT ?_; simp only [tkA, tkB, tkC]
            refine .tq 68 101 hT ?_ (hy := fun w hSw => by obtain ⟨⟨s0, s1, s2⟩, s3, s4, s5⟩ := hSw; go_simp; rfl); simp only [tkA, tkB, tkC]
            refine .tq 69 102 hT ?_; simp only [tkA, tkB, tkC]
            refine .tq (v := .bool false) 70 103 hT ?_ (hy := fun w hSw => by go_simp); simp only [tkA, tkB, tkC]
            refine .tq 71 104 hT ?_; simp only [tkA, tkB, tkC]
            refine .tq 72 105 hT ?_; simp only [tkA, tkB, tkC]
            refine AnyG.done (by kernel_rfl) ?_ _
            clear hT
            go_wp2_with fail
            go_roundw
            case rel => exact ⟨k + 1, by omega, by go_num, Q.out⟩
            case measure => simp [intOf]; omega
          · have h1 : (x4 == 0) = false := by simpa using cb.1
            have h2 : (x4 == -1) = false := by simpa using cb.2
            clear cb S3 S4
            refine .tq (v := .bool false) 41 74 hT ?_ (hy := fun w hSw => by go_simp); simp only [tkA, tkB, tkC]
            refine .tq 42 75 hT ?_; simp only [tkA, tkB, tkC]
            refine .sq 43 76 hT ?_; simp only [tkA, tkB, tkC]
            refine .sq 44 77 hT ?_; simp only [tkA, tkB, tkC]
            refine .sq 45 78 hT ?_; simp only [tkA, tkB, tkC]
            refine .sq 46 79 hT ?_; simp only [tkA, tkB, tkC]
            refine .sq 47 80 hT ?_; simp only [tkA, tkB, tkC]
            refine .sq 48 81 hT ?_; simp only [tkA, tkB, tkC]
            refine .sq 49 82 hT ?_; simp only [tkA, tkB, tkC]
            refine .sq 50 83 hT ?_; simp only [tkA, tkB, tkC]
            refine .sq 51 84 hT ?_; simp only [tkA, tkB, tkC]
            refine .sq 52 85 hT ?_; simp only [tkA, tkB, tkC]
            refine .sq 53 86 hT ?_; simp only [tkA, tkB, tkC]
            refine .tq 54 87 hT ?_; simp only [tkA, tkB, tkC]
            refine .tq 55 88 hT ?_; simp only [tkA, tkB, tkC]
            refine .tq 56 89 hT ?_; simp only [tkA, tkB, tkC]
            refine .tq 57 90 hT ?_; simp only [tkA, tkB, tkC]
            refine .tq 58 91 hT ?_; simp only [tkA, tkB, tkC]
            refine .tq 59 92 hT ?_; simp only [tkA, tkB, tkC]
            refine .tq 60 93 hT ?_; simp only [tkA, tkB, tkC]
            refine .tq 61 94 hT ?_ (hy := fun w hSw => by obtain ⟨⟨s0, s1, s2⟩, s3, s4, s5⟩ := hSw; go_simp; rfl); simp only [tkA, tkB, tkC]
            refine .tq (v := .bool false) 62 95 hT ?_ (hy := fun w hSw => by go_simp); simp only [tkA, tkB, tkC]
            refine .tq 63 96 hT ?_; simp only [tkA, tkB, tkC]
            refine .sq 64 97 hT ?_; simp only [tkA, tkB, tkC]
            refine .sq 65 98 hT ?_; simp only [tkA, tkB, tkC]
            refine .sq 66 99 hT ?_; simp only [tkA, tkB, tkC]
            refine .sq 67 100 hT ?_; simp only [tkA, tkB, tkC]
            refine .sq 68 101 hT ?_; simp only [tkA, tkB, tkC]
            refine .sq 69 102 hT ?_; simp only [tkA, tkB, tkC]
            refine .sq 70 103 hT ?_; simp only [tkA, tkB, tkC]
            refine .tq 71 104 hT ?_; simp only [tkA, tkB, tkC]
            refine .tq 72 105 hT ?_; simp only [tkA, tkB, tkC]
            refine AnyG.done (by kernel_rfl) ?_ _
            clear hT
            go_wp2_with fail
            go_roundw
            case rel => exact ⟨k + 1, by omega, by go_num, Q.out⟩
            case measure => simp [intOf]; omega
        · have g1 : (x3 == 0) = false := by rw [cl]; rfl
          have g2 : (x3 == 100) = true := by simpa using cl
          have g3 : (z1 != 0) = false := by simpa using S2.out cl
          clear cl S1 S2
          refine .tq (v := .bool false) 5 38 hT ?_ (hy := fun w hSw => by go_simp); simp only [tkA, tkB, tkC]
          refine .tq 6 39 hT ?_; simp only [tkA, tkB, tkC]
          refine .sq 7 40 hT ?_; simp only [tkA, tkB, tkC]
          refine .sq 8 41 hT ?_; simp only [tkA, tkB, tkC]
          refine .sq 9 42 hT ?_; simp only [tkA, tkB, tkC]
          refine .sq 10 43 hT ?_; simp only [tkA, tkB, tkC]
          refine .sq 11 44 hT ?_; simp only [tkA, tkB, tkC]
          refine .sq 12 45 hT ?_; simp only [tkA, tkB, tkC]
          refine .sq 13 46 hT ?_; simp only [tkA, tkB, tkC]
          refine .sq 14 47 hT ?_; simp only [tkA, tkB, tkC]
          refine .sq 15 48 hT ?_; simp only [tkA, tkB, tkC]
          refine .sq 16 49 hT ?_; simp only [tkA, tkB, tkC]
          refine .sq 17 50 hT ?_; simp only [tkA, tkB, tkC]
          refine .tq 18 51 hT ?_; simp only [tkA, tkB, tkC]
          refine .tq 19 52 hT ?_; simp only [tkA, tkB, tkC]
          refine .tq 20 53 hT ?_; simp only [tkA, tkB, tkC]
          refine .tq 21 54 hT ?_; simp only [tkA, tkB, tkC]
          refine .tq 22 55 hT ?_; simp only [tkA, tkB, tkC]
          refine .tq 23 56 hT ?_; simp only [tkA, tkB, tkC]
          refine .tq 24 57 hT ?_ (hy := fun w hSw => by obtain ⟨⟨s0, s1, s2⟩, s3, s4, s5⟩ := hSw; go_simp; rfl); simp only [tkA, tkB, tkC]
          refine .tq (v := .bool true) 25 58 hT ?_ (hy := fun w hSw => by go_simp); simp only [tkA, tkB, tkC]
          refine .tq 26 59 hT ?_; simp only [tkA, tkB, tkC]
          refine .tq 27 60 hT ?_; simp only [tkA, tkB, tkC]
          refine .tq 28 61 hT ?_; simp only [tkA, tkB, tkC]
          refine .tq 29 62 hT ?_; simp only [tkA, tkB, tkC]
          refine .tq 30 63 hT ?_; simp only [tkA, tkB, tkC]
          refine .tq 31 64 hT ?_ (hy := fun w hSw => by obtain ⟨⟨s0, s1, s2⟩, s3, s4, s5⟩ := hSw; go_simp; rfl); simp only [tkA, tkB, tkC]
          refine .tq (v := .bool false) 32 65 hT ?_ (hy := fun w hSw => by go_simp); simp only [tkA, tkB, tkC]
          refine .tq 33 66 hT ?_; simp only [tkA, tkB, tkC]
          refine .tq 34 67 hT ?_; simp only [tkA, tkB, tkC]
          refine .tq 35 68 hT ?_; simp only [tkA, tkB, tkC]
          refine .tq 36 69 hT ?_; simp only [tkA, tkB, tkC]
          refine .tq 37 70 hT ?_; simp only [tkA, tkB, tkC]
          refine .tq 38 71 hT ?_; simp only [tkA, tkB, tkC]
          refine .tq 39 72 hT ?_; simp only [tkA, tkB, tkC]
          refine .tq 40 73 hT ?_ (hy := fun w hSw => by obtain ⟨⟨s0, s1, s2⟩, s3, s4, s5⟩ := hSw; go_simp; rfl); simp only [tkA, tkB, tkC]
          clear g1 g2 g3
          rcases CB with cb | cb | cb
          · have h1 : (x4 == 0) = true := by simpa using cb
            have h2 : (z2 != z0) = false := by simpa using S3.out cb
            have h3 : (x4 == -1) = false := by rw [cb]; rfl
            clear cb S3 S4
            refine .tq (v := .bool true) 41 74 hT ?_ (hy := fun w hSw => by go_simp); simp only [tkA, tkB, tkC]
            refine .tq 42 75 hT ?_; simp only [tkA, tkB, tkC]
            refine .tq 43 76 hT ?_; simp only [tkA, tkB, tkC]
            refine .tq 44 77 hT ?_; simp only [tkA, tkB, tkC]
            refine .tq 45 78 hT ?_; simp only [tkA, tkB, tkC]
            refine .tq 46 79 hT ?_; simp only [tkA, tkB, tkC]
            refine .tq 47 80 hT ?_ (hy := fun w hSw => by obtain ⟨⟨s0, s1, s2⟩, s3, s4, s5⟩ := hSw; go_simp; rfl); simp only [tkA, tkB, tkC]
            refine .tq 48 81 hT ?_; simp only [tkA, tkB, tkC]
            refine .tq 49 82 hT ?_; simp only [tkA, tkB, tkC]
            refine .tq 50 83 hT ?_; simp only [tkA, tkB, tkC]
            refine .tq 51 84 hT ?_; simp only [tkA, tkB, tkC]
            refine .tq 52 85 hT ?_ (hy := fun w hSw => by obtain ⟨⟨s0, s1, s2⟩, s3, s4, s5⟩ := hSw; go_simp; rfl); simp only [tkA, tkB, tkC]
            refine .tq (v := .bool false) 53 86 hT ?_ (hy := fun w hSw => by go_simp); simp only [tkA, tkB, tkC]
            refine .tq 54 87 hT ?_; simp only [tkA, tkB, tkC]
            refine .tq 55 88 hT ?_; simp only [tkA, tkB, tkC]
            refine .tq 56 89 hT ?_; simp only [tkA, tkB, tkC]
            refine .tq 57 90 hT ?_; simp only [tkA, tkB, tkC]
            refine .tq 58 91 hT ?_; simp only [tkA, tkB, tkC]
            refine .tq 59 92 hT ?_; simp only [tkA, tkB, tkC]
            refine .tq 60 93 hT ?_; simp only [tkA, tkB, tkC]
            refine .tq 61 94 hT ?_ (hy := fun w hSw => by obtain ⟨⟨s0, s1, s2⟩, s3, s4, s5⟩ := hSw; go_simp; rfl); simp only [tkA, tkB, tkC]
            refine .tq (v := .bool false) 62 95 hT ?_ (hy := fun w hSw => by go_simp); simp only [tkA, tkB, tkC]
            refine .tq 63 96 hT ?_; simp only [tkA, tkB, tkC]
            refine .sq 64 97 hT ?_; simp only [tkA, tkB, tkC]
            refine .sq 65 98 hT ?_; simp only [tkA, tkB, tkC]
            refine .sq 66 99 hT ?_; simp only [tkA, tkB, tkC]
            refine .sq 67 100 hT ?_; simp only [tkA, tkB, tkC]
            refine .sq 68 101 hT ?_; simp only [tkA, tkB, tkC]
            refine .sq 69 102 hT ?_; simp only [tkA, tkB, tkC]
            refine .sq 70 103 hT ?_; simp only [tkA, tkB, tkC]
            refine .tq 71 104 hT ?_; simp only [tkA, tkB, tkC]
            refine .tq 72 105 hT ?_; simp only [tkA, tkB, tkC]
            refine AnyG.done (by kernel_rfl) ?_ _
            clear hT
            go_wp2_with fail
            go_roundw
            case rel => exact ⟨k + 1, by omega, by go_num, Q.out⟩
            case measure => simp [intOf]; omega
          · have h1 : (x4 == 0) = false := by rw [cb]; rfl
            have h2 : (x4 == -1) = true := by simpa using cb
            have h3 : (z2 != total) = false := by simpa using S4.out cb
            clear cb S3 S4
            refine .tq (v := .bool false) 41 74 hT ?_ (hy := fun w hSw => by go_simp); simp only [tkA, tkB, tkC]
            refine .tq 42 75 hT ?_; simp only [tkA, tkB, tkC]
            refine .sq 43 76 hT ?_; simp only [tkA, tkB, tkC]
            refine .sq 44 77 hT ?_; simp only [tkA, tkB, tkC]
            refine .sq 45 78 hT ?_; simp only [tkA, tkB, tkC]
            refine .sq 46 79 hT ?_; simp only [tkA, tkB, tkC]
            refine .sq 47 80 hT ?_; simp only [tkA, tkB, tkC]
            refine .sq 48 81 hT ?_; simp only [tkA, tkB, tkC]
            refine .sq 49 82 hT ?_; simp only [tkA, tkB, tkC]
            refine .sq 50 83 hT ?_; simp only [tkA, tkB, tkC]
            refine .sq 51 84 hT ?_; simp only [tkA, tkB, tkC]
            refine .sq 52 85 hT ?_; simp only [tkA, tkB, tkC]
            refine .sq 53 86 hT ?_; simp only [tkA, tkB, tkC]
            refine .tq 54 87 hT ?_; simp only [tkA, tkB, tkC]
            refine .tq 55 88 hT ?_; simp only [tkA, tkB, tkC]
            refine .tq 56 89 hT ?_; simp only [tkA, tkB, tkC]
            refine .tq 57 90 hT ?_; simp only [tkA, tkB, tkC]
            refine .tq 58 91 hT ?_; simp only [tkA, tkB, tkC]
            refine .tq 59 92 hT ?_; simp only [tkA, tkB, tkC]
            refine .tq 60 93 hT ?_; simp only [tkA, tkB, tkC]
            refine .tq 61 94 hT ?_ (hy := fun w hSw => by obtain ⟨⟨s0, s1, s2⟩, s3, s4, s5⟩ := hSw; go_simp; rfl); simp only [tkA, tkB, tkC]
            refine .tq (v := .bool true) 62 95 hT ?_ (hy := fun w hSw => by go_simp); simp only [tkA, tkB, tkC]
            refine .tq 63 96 hT ?_; simp only [tkA, tkB, tkC]
            refine .tq 64 97 hT ?_; simp only [tkA, tkB, tkC]
            refine .tq 65 98 hT ?_; simp only [tkA, tkB, tkC]
            refine .tq 66 99 hT ?_; simp only [tkA, tkB, tkC]
            refine .tq 67 100 hT ?_; simp only [tkA, tkB, tkC]
            refine .tq 68 101 hT ?_ (hy := fun w hSw => by obtain ⟨⟨s0, s1, s2⟩, s3, s4, s5⟩ := hSw; go_simp; rfl); simp only [tkA, tkB, tkC]
            refine .tq 69 102 hT ?_; simp only [tkA, tkB, tkC]
            refine .tq (v := .bool false) 70 103 hT ?_ (hy := fun w hSw => by go_simp); simp only [tkA, tkB, tkC]
            refine .tq 71 104 hT ?_; simp only [tkA, tkB, tkC]
            refine .tq 72 105 hT ?_; simp only [tkA, tkB, tkC]
            refine AnyG.done (by kernel_rfl) ?_ _
            clear hT
            go_wp2_with fail
            go_roundw
            case rel => exact ⟨k + 1, by omega, by go_num, Q.out⟩
            case measure => simp [intOf]; omega
          · have h1 : (x4 == 0) = false := by simpa using cb.1
            have h2 : (x4 == -1) = false := by simpa using cb.2
            clear cb S3 S4
            refine .tq (v := .bool false) 41 74 hT ?_ (hy := fun w hSw => by go_simp); simp only [tkA, tkB, tkC]
            refine .tq 42 75 hT ?_; simp only [tkA, tkB, tkC]
            refine .sq 43 76 hT ?_; simp only [tkA, tkB, tkC]
            refine .sq 44 77 hT ?_; simp only [tkA, tkB, tkC]
            refine .sq 45 78 hT ?_; simp only [tkA, tkB, tkC]
            refine .sq 46 79 hT ?_; simp only [tkA, tkB, tkC]
            refine .sq 47 80 hT ?_; simp only [tkA, tkB, tkC]
            refine .sq 48 81 hT ?_; simp only [tkA, tkB, tkC]
            refine .sq 49 82 hT ?_; simp only [tkA, tkB, tkC]
            refine .sq 50 83 hT ?_; simp only [tkA, tkB, tkC]
            refine .sq 51 84 hT ?_; simp only [tkA, tkB, tkC]
            refine .sq 52 85 hT ?_; simp only [tkA, tkB, tkC]
            refine .sq 53 86 hT ?_; simp only [tkA, tkB, tkC]
            refine .tq 54 87 hT ?_; simp only [tkA, tkB, tkC]
            refine .tq 55 88 hT ?_; simp only [tkA, tkB, tkC]
            refine .tq 56 89 hT ?_; simp only [tkA, tkB, tkC]
            refine .tq 57 90 hT ?_; simp only [tkA, tkB, tkC]
            refine .tq 58 91 hT ?_; simp only [tkA, tkB, tkC]
            refine .tq 59 92 hT ?_; simp only [tkA, tkB, tkC]
            refine .tq 60 93 hT ?_; simp only [tkA, tkB, tkC]
            refine .tq 61 94 hT ?_ (hy := fun w hSw => by obtain ⟨⟨s0, s1, s2⟩, s3, s4, s5⟩ := hSw; go_simp; rfl); simp only [tkA, tkB, tkC]
            refine .tq (v := .bool false) 62 95 hT ?_ (hy := fun w hSw => by go_simp); simp only [tkA, tkB, tkC]
            refine .tq 63 96 hT ?_; simp only [tkA, tkB, tkC]
            refine .sq 64 97 hT ?_; simp only [tkA, tkB, tkC]
            refine .sq 65 98 hT ?_; simp only [tkA, tkB, tkC]
            refine .sq 66 99 hT ?_; simp only [tkA, tkB, tkC]
            refine .sq 67 100 hT ?_; simp only [tkA, tkB, tkC]
            refine .sq 68 101 hT ?_; simp only [tkA, tkB, tkC]
            refine .sq 69 102 hT ?_; simp only [tkA, tkB, tkC]
            refine .sq 70 103 hT ?_; simp only [tkA, tkB, tkC]
            refine .tq 71 104 hT ?_; simp only [tkA, tkB, tkC]
            refine .tq 72 105 hT ?_; simp only [tkA, tkB, tkC]
            refine AnyG.done (by kernel_rfl) ?_ _
            clear hT
            go_wp2_with fail
            go_roundw
            case rel => exact ⟨k + 1, by omega, by go_num, Q.out⟩
            case measure => simp [intOf]; omega
        · have g1 : (x3 == 0) = false := by simpa using cl.1
          have g2 : (x3 == 100) = false := by simpa using cl.2
          clear cl S1 S2
          refine .tq (v := .bool false) 5 38 hT ?_ (hy := fun w hSw => by go_simp); simp only [tkA, tkB, tkC]
          refine .tq 6 39 hT ?_; simp only [tkA, tkB, tkC]
          refine .sq 7 40 hT ?_; simp only [tkA, tkB, tkC]
          refine .sq 8 41 hT ?_; simp only [tkA, tkB, tkC]
          refine .sq 9 42 hT ?_; simp only [tkA, tkB, tkC]
          refine .sq 10 43 hT ?_; simp only [tkA, tkB, tkC]
          refine .sq 11 44 hT ?_; simp only [tkA, tkB, tkC]
          refine .sq 12 45 hT ?_; simp only [tkA, tkB, tkC]
          refine .sq 13 46 hT ?_; simp only [tkA, tkB, tkC]
          refine .sq 14 47 hT ?_; simp only [tkA, tkB, tkC]
          refine .sq 15 48 hT ?_; simp only [tkA, tkB, tkC]
          refine .sq 16 49 hT ?_; simp only [tkA, tkB, tkC]
          refine .sq 17 50 hT ?_; simp only [tkA, tkB, tkC]
          refine .tq 18 51 hT ?_; simp only [tkA, tkB, tkC]
          refine .tq 19 52 hT ?_; simp only [tkA, tkB, tkC]
          refine .tq 20 53 hT ?_; simp only [tkA, tkB, tkC]
          refine .tq 21 54 hT ?_; simp only [tkA, tkB, tkC]
          refine .tq 22 55 hT ?_; simp only [tkA, tkB, tkC]
          refine .tq 23 56 hT ?_; simp only [tkA, tkB, tkC]
          refine .tq 24 57 hT ?_ (hy := fun w hSw => by obtain ⟨⟨s0, s1, s2⟩, s3, s4, s5⟩ := hSw; go_simp; rfl); simp only [tkA, tkB, tkC]
          refine .tq (v := .bool false) 25 58 hT ?_ (hy := fun w hSw => by go_simp); simp only [tkA, tkB, tkC]
          refine .tq 26 59 hT ?_; simp only [tkA, tkB, tkC]
          refine .sq 27 60 hT ?_; simp only [tkA, tkB, tkC]
          refine .sq 28 61 hT ?_; simp only [tkA, tkB, tkC]
          refine .sq 29 62 hT ?_; simp only [tkA, tkB, tkC]
          refine .sq 30 63 hT ?_; simp only [tkA, tkB, tkC]
          refine .sq 31 64 hT ?_; simp only [tkA, tkB, tkC]
          refine .sq 32 65 hT ?_; simp only [tkA, tkB, tkC]
          refine .tq 33 66 hT ?_; simp only [tkA, tkB, tkC]
          refine .tq 34 67 hT ?_; simp only [tkA, tkB, tkC]
          refine .tq 35 68 hT ?_; simp only [tkA, tkB, tkC]
          refine .tq 36 69 hT ?_; simp only [tkA, tkB, tkC]
          refine .tq 37 70 hT ?_; simp only [tkA, tkB, tkC]
          refine .tq 38 71 hT ?_; simp only [tkA, tkB, tkC]
          refine .tq 39 72 hT ?_; simp only [tkA, tkB, tkC]
          refine .tq 40 73 hT ?_ (hy := fun w hSw => by obtain ⟨⟨s0, s1, s2⟩, s3, s4, s5⟩ := hSw; go_simp; rfl); simp only [tkA, tkB, tkC]
          clear g1 g2
          rcases CB with cb | cb | cb
          · have h1 : (x4 == 0) = true := by simpa using cb
            have h2 : (z2 != z0) = false := by simpa using S3.out cb
            have h3 : (x4 == -1) = false := by rw [cb]; rfl
            clear cb S3 S4
            refine .tq (v := .bool true) 41 74 hT ?_ (hy := fun w hSw => by go_simp); simp only [tkA, tkB, tkC]
            refine .tq 42 75 hT ?_; simp only [tkA, tkB, tkC]
            refine .tq 43 76 hT ?_; simp only [tkA, tkB, tkC]
            refine .tq 44 77 hT ?_; simp only [tkA, tkB, tkC]
            refine .tq 45 78 hT ?_; simp only [tkA, tkB, tkC]
            refine .tq 46 79 hT ?_; simp only [tkA, tkB, tkC]
            refine .tq 47 80 hT ?_ (hy := fun w hSw => by obtain ⟨⟨s0, s1, s2⟩, s3, s4, s5⟩ := hSw; go_simp; rfl); simp only [tkA, tkB, tkC]
            refine .tq 48 81 hT ?_; simp only [tkA, tkB, tkC]
            refine .tq 49 82 hT ?_; simp only [tkA, tkB, tkC]
            refine .tq 50 83 hT ?_; simp only [tkA, tkB, tkC]
            refine .tq 51 84 hT ?_; simp only [tkA, tkB, tkC]
            refine .tq 52 85 hT ?_ (hy := fun w hSw => by obtain ⟨⟨s0, s1, s2⟩, s3, s4, s5⟩ := hSw; go_simp; rfl); simp only [tkA, tkB, tkC]
            refine .tq (v := .bool false) 53 86 hT ?_ (hy := fun w hSw => by go_simp); simp only [tkA, tkB, tkC]
            refine .tq 54 87 hT ?_; simp only [tkA, tkB, tkC]
            refine .tq 55 88 hT ?_; simp only [tkA, tkB, tkC]
            refine .tq 56 89 hT ?_; simp only [tkA, tkB, tkC]
            refine .tq 57 90 hT ?_; simp only [tkA, tkB, tkC]
            refine .tq 58 91 hT ?_; simp only [tkA, tkB, tkC]
            refine .tq 59 92 hT ?_; simp only [tkA, tkB, tkC]
            refine .tq 60 93 hT ?_; simp only [tkA, tkB, tkC]
            refine .tq 61 94 hT ?_ (hy := fun w hSw => by obtain ⟨⟨s0, s1, s2⟩, s3, s4, s5⟩ := hSw; go_simp; rfl); simp only [tkA, tkB, tkC]
            refine .tq (v := .bool false) 62 95 hT ?_ (hy := fun w hSw => by go_simp); simp only [tkA, tkB, tkC]
            refine .tq 63 96 hT ?_; simp only [tkA, tkB, tkC]
            refine .sq 64 97 hT ?_; simp only [tkA, tkB, tkC]
            refine .sq 65 98 hT ?_; simp only [tkA, tkB, tkC]
            refine .sq 66 99 hT ?_; simp only [tkA, tkB, tkC]
            refine .sq 67 100 hT ?_; simp only [tkA, tkB, tkC]
            refine .sq 68 101 hT ?_; simp only [tkA, tkB, tkC]
            refine .sq 69 102 hT ?_; simp only [tkA, tkB, tkC]
            refine .sq 70 103 hT ?_; simp only [tkA, tkB, tkC]
            refine .tq 71 104 hT ?_; simp only [tkA, tkB, tkC]
            refine .tq 72 105 hT ?_; simp only [tkA, tkB, tkC]
            refine AnyG.done (by kernel_rfl) ?_ _
            clear hT
            go_wp2_with fail
            go_roundw
            case rel => exact ⟨k + 1, by omega, by go_num, Q.out⟩
            case measure => simp [intOf]; omega
          · have h1 : (x4 == 0) = false := by rw [cb]; rfl
            have h2 : (x4 == -1) = true := by simpa using cb
            have h3 : (z2 != total) = false := by simpa using S4.out cb
            clear cb S3 S4
            refine .tq (v := .bool false) 41 74 hT ?_ (hy := fun w hSw => by go_simp); simp only [tkA, tkB, tkC]
            refine .tq 42 75 hT ?_; simp only [tkA, tkB, tkC]
            refine .sq 43 76 hT ?_; simp only [tkA, tkB, tkC]
            refine .sq 44 77 hT ?_; simp only [tkA, tkB, tkC]
            refine .sq 45 78 hT ?_; simp only [tkA, tkB, tkC]
            refine .sq 46 79 hT ?_; simp only [tkA, tkB, tkC]
            refine .sq 47 80 hT ?_; simp only [tkA, tkB, tkC]
            refine .sq 48 81 hT ?_; simp only [tkA, tkB, tkC]
            refine .sq 49 82 hT ?_; simp only [tkA, tkB, tkC]
            refine .sq 50 83 hT ?_; simp only [tkA, tkB, tkC]
            refine .sq 51 84 hT ?_; simp only [tkA, tkB, tkC]
            refine .sq 52 85 hT ?_; simp only [tkA, tkB, tkC]
            refine .sq 53 86 hT ?_; simp only [tkA, tkB, tkC]
            refine .tq 54 87 hT ?_; simp only [tkA, tkB, tkC]
            refine .tq 55 88 hT ?_; simp only [tkA, tkB, tkC]
            refine .tq 56 89 hT ?_; simp only [tkA, tkB, tkC]
            refine .tq 57 90 hT ?_; simp only [tkA, tkB, tkC]
            refine .tq 58 91 hT ?_; simp only [tkA, tkB, tkC]
            refine .tq 59 92 hT ?_; simp only [tkA, tkB, tkC]
            refine .tq 60 93 hT ?_; simp only [tkA, tkB, tkC]
            refine .tq 61 94 hT ?_ (hy := fun w hSw => by obtain ⟨⟨s0, s1, s2⟩, s3, s4, s5⟩ := hSw; go_simp; rfl); simp only [tkA, tkB, tkC]
            refine .tq (v := .bool true) 62 95 hT ?_ (hy := fun w hSw => by go_simp); simp only [tkA, tkB, tkC]
            refine .tq 63 96 hT ?_; simp only [tkA, tkB, tkC]
            refine .tq 64 97 hT ?_; simp only [tkA, tkB, tkC]
            refine .tq 65 98 hT ?_; simp only [tkA, tkB, tkC]
            refine .tq 66 99 hT ?_; simp only [tkA, tkB, tkC]
            refine .tq 67 100 hT ?_; simp only [tkA, tkB, tkC]
            refine .tq 68 101 hT ?_ (hy := fun w hSw => by obtain ⟨⟨s0, s1, s2⟩, s3, s4, s5⟩ := hSw; go_simp; rfl); simp only [tkA, tkB, tkC]
            refine .tq 69 102 hT ?_; simp only [tkA, tkB, tkC]
            refine .tq (v := .bool false) 70 103 hT ?_ (hy := fun w hSw => by go_simp); simp only [tkA, tkB, tkC]
            refine .tq 71 104 hT ?_; simp only [tkA, tkB, tkC]
            refine .tq 72 105 hT ?_; simp only [tkA, tkB, tkC]
            refine AnyG.done (by kernel_rfl) ?_ _
            clear hT
            go_wp2_with fail
            go_roundw
            case rel => exact ⟨k + 1, by omega, by go_num, Q.out⟩
            case measure => simp [intOf]; omega
          · have h1 : (x4 == 0) = false := by simpa using cb.1
            have h2 : (x4 == -1) = false := by simpa using cb.2
            clear cb S3 S4
            refine .tq (v := .bool false) 41 74 hT ?_ (hy := fun w hSw => by go_simp); simp only [tkA, tkB, tkC]
            refine .tq 42 75 hT ?_; simp only [tkA, tkB, tkC]
            refine .sq 43 76 hT ?_; simp only [tkA, tkB, tkC]
            refine .sq 44 77 hT ?_; simp only [tkA, tkB, tkC]
            refine .sq 45 78 hT ?_; simp only [tkA, tkB, tkC]
            refine .sq 46 79 hT ?_; simp only [tkA, tkB, tkC]
            refine .sq 47 80 hT ?_; simp only [tkA, tkB, tkC]
            refine .sq 48 81 hT ?_; simp only [tkA, tkB, tkC]
            refine .sq 49 82 hT ?_; simp only [tkA, tkB, tkC]
            refine .sq 50 83 hT ?_; simp only [tkA, tkB, tkC]
            refine .sq 51 84 hT ?_; simp only [tkA, tkB, tkC]
            refine .sq 52 85 hT ?_; simp only [tkA, tkB, tkC]
            refine .sq 53 86 hT ?_; simp only [tkA, tkB, tkC]
            refine .tq 54 87 hT ?_; simp only [tkA, tkB, tkC]
            refine .tq 55 88 hT ?_; simp only [tkA, tkB, tkC]
            refine .tq 56 89 hT ?_; simp only [tkA, tkB, tkC]
            refine .tq 57 90 hT ?_; simp only [tkA, tkB, tkC]
            refine .tq 58 91 hT ?_; simp only [tkA, tkB, tkC]
            refine .tq 59 92 hT ?_; simp only [tkA, tkB, tkC]
            refine .tq 60 93 hT ?_; simp only [tkA, tkB, tkC]
            refine .tq 61 94 hT ?_ (hy := fun w hSw => by obtain ⟨⟨s0, s1, s2⟩, s3, s4, s5⟩ := hSw; go_simp; rfl); simp only [tkA, tkB, tkC]
            refine .tq (v := .bool false) 62 95 hT ?_ (hy := fun w hSw => by go_simp); simp only [tkA, tkB, tkC]
            refine .tq 63 96 hT ?_; simp only [tkA, tkB, tkC]
            refine .sq 64 97 hT ?_; simp only [tkA, tkB, tkC]
            refine .sq 65 98 hT ?_; simp only [tkA, tkB, tkC]
            refine .sq 66 99 hT ?_; simp only [tkA, tkB, tkC]
            refine .sq 67 100 hT ?_; simp only [tkA, tkB, tkC]
            refine .sq 68 101 hT ?_; simp only [tkA, tkB, tkC]
            refine .sq 69 102 hT ?_; simp only [tkA, tkB, tkC]
            refine .sq 70 103 hT ?_; simp only [tkA, tkB, tkC]
            refine .tq 71 104 hT ?_; simp only [tkA, tkB, tkC]
            refine .tq 72 105 hT ?_; simp only [tkA, tkB, tkC]
            refine AnyG.done (by kernel_rfl) ?_ _
            clear hT
            go_wp2_with fail
            go_roundw
            case rel => exact ⟨k + 1, by omega, by go_num, Q.out⟩
            case measure => simp [intOf]; omega
      · obtain rfl : k = n := by omega
        have P : Hd (Below w.heap.size w wr) := ⟨B2.out.trans (p3.mono B2.out.size)⟩
        clear p3
        go_wp2_with fail
        go_ret
        exact ⟨rfl, P.out⟩
  · clear hres
    go_wp2_with fail
    go_ret
    exact ⟨rfl, B2.out⟩
  · have hz' : (refI total n (shr l) != 0) = true := by simpa using hz
    clear hres hz
    go_wp2_with fail
    go_ret
    exact ⟨rfl, B2.out⟩
end Go.Proofs.Ytkohofiobpniiaa
