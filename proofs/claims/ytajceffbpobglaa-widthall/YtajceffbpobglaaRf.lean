/-
  How many seats the reference answers. Conditions: numbers fit their type.
-/
import Derived.Test.YtajceffbpobglaaWs
import Derived.Deep.CutBlock
import Derived.Deep.DeepCutAuto
namespace Go.Proofs.Ytajceffbpobglaa
open Go.RowKit

/-- So many are left behind k seats. -/
structure Lp (o S : Int) (k : Nat) (l : Int) : Prop where
  pos : 0 < l → l = o - k * S
  neg : l ≤ 0 → o ≤ k * S
  last : 0 < k → ((k : Int) - 1) * S < o
  low : -9223372036854775808 ≤ l
  high : l ≤ 9223372036854775807
theorem Lp.start {o S : Int} (h1 : -9223372036854775808 ≤ o) (h2 : o ≤ 9223372036854775807) : Lp o S 0 o :=
  ⟨fun _ => by simp, fun h => by simpa using h, fun h => absurd h (Nat.lt_irrefl 0), h1, h2⟩
theorem Lp.step {o S l l' : Int} {k : Nat} (h : Lp o S k l) (hl : 0 < l) (h1 : -9223372036854775808 ≤ l') (h2 : l' ≤ 9223372036854775807) (g : (l' = l - S) ∨ (l' ≤ 0 ∧ l ≤ S)) : Lp o S (k + 1) l' := by
  have e := h.pos hl
  have e1 : ((k + 1 : Nat) : Int) * S = k * S + S := by rw [Int.natCast_add, Int.add_mul]; simp
  refine ⟨fun h => ?_, fun h => ?_, fun _ => ?_, h1, h2⟩
  · rw [e1]; omega
  · rw [e1]; omega
  · rw [show ((k + 1 : Nat) : Int) - 1 = k by omega]; omega
theorem Lp.done {o S l m : Int} {k : Nat} (h : Lp o S k l) (hS : 0 < S) (hm : 1 ≤ m) (hk : (k : Int) ≤ m) (hl : l ≤ 0 ∨ (k : Int) = m) : min (up (max o 0) S) m = k := by
  by_cases c : l ≤ 0
  · have a := h.neg c
    by_cases z : k = 0
    · subst z
      simp at a
      have : up (max o 0) S = 0 := up_eq hS (by omega) (by rw [Int.sub_mul]; omega)
      omega
    · have b := h.last (by omega)
      have p : 0 ≤ ((k : Int) - 1) * S := Int.mul_nonneg (by omega) (by omega)
      have : up (max o 0) S = k := up_eq hS (by omega) (by omega)
      omega
  · have a := h.pos (by omega)
    have e : (k : Int) = m := by omega
    have : (k : Int) < up (max o 0) S := (lt_up hS).2 (by omega)
    omega
/-- The number for a list, by how many are left. -/
theorem Lp.lst {o p l m : Int} {k : Nat} {s : Bool} (h : Lp o (if s then 2 * p else p) k l) (hp : 0 < p) (hm : 1 ≤ m) (hk : (k : Int) ≤ m) (hl : l ≤ 0 ∨ (k : Int) = m) : min (lst p (max o 0) s) m = max (k : Int) 1 := by
  have := h.done (by cases s <;> simp <;> omega) hm hk hl
  unfold Ytajceffbpobglaa.lst
  cases s with
  | false => simp at this ⊢; omega
  | true =>
    simp only [if_true] at this ⊢
    rw [up_up hp]
    omega

set_option maxRecDepth 20000 in
set_option maxHeartbeats 2000000 in
theorem rseats_ok {x0 x2 x3 x4 : ByteArray} {x5 : Int} {ag : Option Addr} {ng cg : Nat} (per most : Int) (w : World) (hp : -9223372036854775808 ≤ per) (hp' : per ≤ 9223372036854775807) (hm : -9223372036854775808 ≤ most) (hm' : most ≤ 9223372036854775807) (ho : -9223372036854775808 ≤ x5) (ho' : x5 ≤ 9223372036854775807) :
    Calls Try.prog 9 #[.int .i64 per, .int .i64 most, .agg #[.string x0, .slice ag ng cg, .string x2, .string x3, .string x4, .int .i64 x5]] w fun e w' => e = .returned (.int .i64 (seats per most x5 (kd x2) (isS x4))) ∧ Below w.heap.size w w' := by
  have HB : Hd (Below w.heap.size w (w.alloc (.cells #[.string x0, .slice ag ng cg, .string x2, .string x3, .string x4, .int .i64 x5] 24))) := ⟨alloc_below _ _⟩
  have N0 := Blk.new w 24 #[.string x0, .slice ag ng cg, .string x2, .string x3, .string x4, .int .i64 x5]
  have d2 := N0.cellv (v := .string x2) 2 rfl
  have d4 := N0.cellv (v := .string x4) 4 rfl
  have d5 := N0.cellv (v := .int .i64 x5) 5 rfl
  have HE : Hd (seats per most x5 (kd x2) (isS x4) = min (ask (max per 1) (min (max most 1) 16) (max x5 0) (kd x2) (isS x4)) (min (max most 1) 16)) := ⟨rfl⟩
  clear N0
  generalize seats per most x5 (kd x2) (isS x4) = z at *
  go_enter Try.func9, Try.ntmps9
  go_upto_region 1 with fail
  generalize w.alloc _ = w1 at *
  obtain ⟨g, hg⟩ : ∃ g, g = w.heap.size := ⟨_, rfl⟩
  rw [← hg] at HB d2 d4 d5 ⊢
  have HG : Hd (g = w.heap.size) := ⟨hg⟩
  clear hg
  go_upto_if 10 with fail
  go_cut [0] from 9 to 10 (fun s0 wx => s0 = .int .i64 (max per 1) ∧ wx = w1)
  case first =>
    by_cases c : per < 1
    · have e : Hd (max per 1 = 1) := ⟨by omega⟩
      go_wp2_with fail
      go_meet
      exact ⟨by rw [e.out], rfl⟩
    · have e : Hd (max per 1 = per) := ⟨by omega⟩
      go_wp2_with fail
      go_meet
      exact ⟨by rw [e.out], rfl⟩
  case rest =>
    obtain ⟨rfl, rfl⟩ := hcut
    have p1 : 1 ≤ max per 1 := by omega
    have p2 : max per 1 ≤ 9223372036854775807 := by omega
    generalize max per 1 = p at *
    clear hp hp'
    go_upto_if 12 with fail
    go_cut [1] from 11 to 12 (fun s1 wx => s1 = .int .i64 (max most 1) ∧ wx = wc)
    case first =>
      by_cases c : most < 1
      · have e : Hd (max most 1 = 1) := ⟨by omega⟩
        go_wp2_with fail
        go_meet
        exact ⟨by rw [e.out], rfl⟩
      · have e : Hd (max most 1 = most) := ⟨by omega⟩
        go_wp2_with fail
        go_meet
        exact ⟨by rw [e.out], rfl⟩
    case rest =>
      obtain ⟨rfl, rfl⟩ := hcut
      have m1 : 1 ≤ max most 1 := by omega
      have m2 : max most 1 ≤ 9223372036854775807 := by omega
      generalize max most 1 = m0 at *
      clear hm hm'
      go_upto_if 14 with fail
      go_cut [1] from 13 to 14 (fun s1 wx => s1 = .int .i64 (min m0 16) ∧ wx = wc)
      case first =>
        by_cases c : 16 < m0
        · have e : Hd (min m0 16 = 16) := ⟨by omega⟩
          go_wp2_with fail
          go_meet
          exact ⟨by rw [e.out], rfl⟩
        · have e : Hd (min m0 16 = m0) := ⟨by omega⟩
          go_wp2_with fail
          go_meet
          exact ⟨by rw [e.out], rfl⟩
      case rest =>
        obtain ⟨rfl, rfl⟩ := hcut
        have m3 : 1 ≤ min m0 16 := by omega
        have m4 : min m0 16 ≤ 16 := by omega
        generalize min m0 16 = m at *
        clear m1 m2
        by_cases h1 : x2 = vList
        · have q1 := lit_yes h1
          have q2 := lit_no (show x2 ≠ vDel by rw [h1]; decide +kernel)
          have HE : Hd (z = min (min (lst p (max x5 0) (isS x4)) m) m) := ⟨by rw [HE.out, h1, kd_list]; rfl⟩
          clear h1
          go_wp2_with fail
          go_loopw [7, 8] (fun l n wr => ∃ (k : Nat) (y : Int), (k : Int) ≤ m ∧ l = .int .i64 y ∧ n = .int .i64 k ∧ Lp x5 (if isS x4 then 2 * p else p) k y ∧ wr = wc) (fun _ n _ => (m - intOf n).toNat)
          case atStart => exact ⟨0, x5, by omega, rfl, rfl, Lp.start ho ho', rfl⟩
          case round =>
            obtain ⟨k, y, hk, rfl, rfl, L, rfl⟩ := hrel
            by_cases hl : 0 < y
            · by_cases hkm : (k : Int) < m
              · have HI : Hd ((k : Int) < m) := ⟨hkm⟩
                have y2 := L.high
                by_cases hs : isS x4 = false
                · skip
                  have s1 := sp_no hs
                  rw [hs] at L
                  have HL : Hd (Lp x5 (if isS x4 then 2 * p else p) (k + 1) (y - p)) := ⟨by rw [hs]; exact L.step hl (by omega) (by omega) (.inl rfl)⟩
                  clear hs L
                  go_wp2_with fail
                  go_roundw
                  case rel => exact ⟨k + 1, y - p, by have := HI.out; omega, by go_num, by go_num, HL.out, (by first | rfl | trivial)⟩
                  case measure => have := HI.out; simp [intOf]; omega
                · have hs : isS x4 = true := by simpa using hs
                  have s1 := sp_yes hs
                  rw [hs] at L
                  by_cases g2 : 0 < y - p
                  · have HL : Hd (Lp x5 (if isS x4 then 2 * p else p) (k + 1) (y - p - p)) := ⟨by rw [hs]; exact L.step hl (by omega) (by omega) (.inl (by simp only [if_true]; omega))⟩
                    clear hs L
                    go_wp2_with fail
                    go_roundw
                    case rel => exact ⟨k + 1, y - p - p, by have := HI.out; omega, by go_num, by go_num, HL.out, (by first | rfl | trivial)⟩
                    case measure => have := HI.out; simp [intOf]; omega
                  · have HL : Hd (Lp x5 (if isS x4 then 2 * p else p) (k + 1) (y - p)) := ⟨by rw [hs]; exact L.step hl (by omega) (by omega) (.inr (by simp only [if_true]; omega))⟩
                    clear hs L
                    go_wp2_with fail
                    go_roundw
                    case rel => exact ⟨k + 1, y - p, by have := HI.out; omega, by go_num, by go_num, HL.out, (by first | rfl | trivial)⟩
                    case measure => have := HI.out; simp [intOf]; omega
              · have D := L.lst (m := m) (by omega) m3 hk (.inr (by omega))
                have z1 : ¬ (k : Int) < 1 := by omega
                have HZ : Hd (z = (k : Int)) := ⟨by rw [HE.out]; omega⟩
                clear D L HE
                go_wp2_with fail
                go_ret
                exact ⟨by rw [HZ.out]; go_num, by rw [← HG.out]; exact HB.out⟩
            · have D := L.lst (m := m) (by omega) m3 hk (.inl (by omega))
              by_cases z1 : (k : Int) < 1
              · skip
                have HZ : Hd (z = 1) := ⟨by rw [HE.out]; omega⟩
                clear D L HE
                go_wp2_with fail
                go_ret
                exact ⟨by rw [HZ.out]; go_num, by rw [← HG.out]; exact HB.out⟩
              · skip
                have HZ : Hd (z = (k : Int)) := ⟨by rw [HE.out]; omega⟩
                clear D L HE
                go_wp2_with fail
                go_ret
                exact ⟨by rw [HZ.out]; go_num, by rw [← HG.out]; exact HB.out⟩
        have q1 := lit_no h1
        by_cases h2 : x2 = vDel
        · have q2 := lit_yes h2
          have HE : Hd (z = min (min (lst p (max x5 0) (isS x4)) m + 1) m) := ⟨by rw [HE.out, h2, kd_del]; rfl⟩
          clear h1 h2
          go_wp2_with fail
          go_loopw [7, 8] (fun l n wr => ∃ (k : Nat) (y : Int), (k : Int) ≤ m ∧ l = .int .i64 y ∧ n = .int .i64 k ∧ Lp x5 (if isS x4 then 2 * p else p) k y ∧ wr = wc) (fun _ n _ => (m - intOf n).toNat)
          case atStart => exact ⟨0, x5, by omega, rfl, rfl, Lp.start ho ho', rfl⟩
          case round =>
            obtain ⟨k, y, hk, rfl, rfl, L, rfl⟩ := hrel
            by_cases hl : 0 < y
            · by_cases hkm : (k : Int) < m
              · have HI : Hd ((k : Int) < m) := ⟨hkm⟩
                have y2 := L.high
                by_cases hs : isS x4 = false
                · skip
                  have s1 := sp_no hs
                  rw [hs] at L
                  have HL : Hd (Lp x5 (if isS x4 then 2 * p else p) (k + 1) (y - p)) := ⟨by rw [hs]; exact L.step hl (by omega) (by omega) (.inl rfl)⟩
                  clear hs L
                  go_wp2_with fail
                  go_roundw
                  case rel => exact ⟨k + 1, y - p, by have := HI.out; omega, by go_num, by go_num, HL.out, (by first | rfl | trivial)⟩
                  case measure => have := HI.out; simp [intOf]; omega
                · have hs : isS x4 = true := by simpa using hs
                  have s1 := sp_yes hs
                  rw [hs] at L
                  by_cases g2 : 0 < y - p
                  · have HL : Hd (Lp x5 (if isS x4 then 2 * p else p) (k + 1) (y - p - p)) := ⟨by rw [hs]; exact L.step hl (by omega) (by omega) (.inl (by simp only [if_true]; omega))⟩
                    clear hs L
                    go_wp2_with fail
                    go_roundw
                    case rel => exact ⟨k + 1, y - p - p, by have := HI.out; omega, by go_num, by go_num, HL.out, (by first | rfl | trivial)⟩
                    case measure => have := HI.out; simp [intOf]; omega
                  · have HL : Hd (Lp x5 (if isS x4 then 2 * p else p) (k + 1) (y - p)) := ⟨by rw [hs]; exact L.step hl (by omega) (by omega) (.inr (by simp only [if_true]; omega))⟩
                    clear hs L
                    go_wp2_with fail
                    go_roundw
                    case rel => exact ⟨k + 1, y - p, by have := HI.out; omega, by go_num, by go_num, HL.out, (by first | rfl | trivial)⟩
                    case measure => have := HI.out; simp [intOf]; omega
              · have D := L.lst (m := m) (by omega) m3 hk (.inr (by omega))
                have z1 : ¬ (k : Int) < 1 := by omega
                by_cases gm : m < (k : Int) + 1
                · have HZ : Hd (z = m) := ⟨by rw [HE.out]; omega⟩
                  clear D L HE
                  go_wp2_with fail
                  go_ret
                  exact ⟨by rw [HZ.out]; go_num, by rw [← HG.out]; exact HB.out⟩
                · exfalso; omega
            · have D := L.lst (m := m) (by omega) m3 hk (.inl (by omega))
              by_cases z1 : (k : Int) < 1
              · skip
                by_cases gm : m < 1 + 1
                · have HZ : Hd (z = m) := ⟨by rw [HE.out]; omega⟩
                  clear D L HE
                  go_wp2_with fail
                  go_ret
                  exact ⟨by rw [HZ.out]; go_num, by rw [← HG.out]; exact HB.out⟩
                · have HZ : Hd (z = 1 + 1) := ⟨by rw [HE.out]; omega⟩
                  clear D L HE
                  go_wp2_with fail
                  go_ret
                  exact ⟨by rw [HZ.out]; go_num, by rw [← HG.out]; exact HB.out⟩
              · skip
                by_cases gm : m < (k : Int) + 1
                · have HZ : Hd (z = m) := ⟨by rw [HE.out]; omega⟩
                  clear D L HE
                  go_wp2_with fail
                  go_ret
                  exact ⟨by rw [HZ.out]; go_num, by rw [← HG.out]; exact HB.out⟩
                · have HZ : Hd (z = (k : Int) + 1) := ⟨by rw [HE.out]; omega⟩
                  clear D L HE
                  go_wp2_with fail
                  go_ret
                  exact ⟨by rw [HZ.out]; go_num, by rw [← HG.out]; exact HB.out⟩
        have q2 := lit_no h2
        by_cases h3 : x2 = vCr
        · have q3 := lit_yes h3
          have HK : kd x2 = 2 := by unfold kd; rw [if_neg h2, if_neg h1, if_pos (by simp [h3])]
          by_cases g1 : p < x5
          · by_cases g2 : m < 2
            · have HZ : Hd (z = m) := ⟨by rw [HE.out, HK]; unfold ask; simp; rw [if_pos (by omega)]; omega⟩
              clear h1 h2 h3 HK HE
              go_wp2_with fail
              go_ret
              exact ⟨by rw [HZ.out]; go_num, by rw [← HG.out]; exact HB.out⟩
            · have HZ : Hd (z = 2) := ⟨by rw [HE.out, HK]; unfold ask; simp; rw [if_pos (by omega)]; omega⟩
              clear h1 h2 h3 HK HE
              go_wp2_with fail
              go_ret
              exact ⟨by rw [HZ.out]; go_num, by rw [← HG.out]; exact HB.out⟩
          · have HZ : Hd (z = 1) := ⟨by rw [HE.out, HK]; unfold ask; simp; rw [if_neg (by omega)]; omega⟩
            clear h1 h2 h3 HK HE
            go_wp2_with fail
            go_ret
            exact ⟨by rw [HZ.out]; go_num, by rw [← HG.out]; exact HB.out⟩
        have q3 := lit_no h3
        by_cases h4 : x2 = vUp
        · have q4 := lit_yes h4
          have HK : kd x2 = 2 := by unfold kd; rw [if_neg h2, if_neg h1, if_pos (by simp [h4])]
          by_cases g1 : p < x5
          · by_cases g2 : m < 2
            · have HZ : Hd (z = m) := ⟨by rw [HE.out, HK]; unfold ask; simp; rw [if_pos (by omega)]; omega⟩
              clear h1 h2 h3 h4 HK HE
              go_wp2_with fail
              go_ret
              exact ⟨by rw [HZ.out]; go_num, by rw [← HG.out]; exact HB.out⟩
            · have HZ : Hd (z = 2) := ⟨by rw [HE.out, HK]; unfold ask; simp; rw [if_pos (by omega)]; omega⟩
              clear h1 h2 h3 h4 HK HE
              go_wp2_with fail
              go_ret
              exact ⟨by rw [HZ.out]; go_num, by rw [← HG.out]; exact HB.out⟩
          · have HZ : Hd (z = 1) := ⟨by rw [HE.out, HK]; unfold ask; simp; rw [if_neg (by omega)]; omega⟩
            clear h1 h2 h3 h4 HK HE
            go_wp2_with fail
            go_ret
            exact ⟨by rw [HZ.out]; go_num, by rw [← HG.out]; exact HB.out⟩
        have q4 := lit_no h4
        by_cases h5 : x2 = vPa
        · have q5 := lit_yes h5
          have HK : kd x2 = 2 := by unfold kd; rw [if_neg h2, if_neg h1, if_pos (by simp [h5])]
          by_cases g1 : p < x5
          · by_cases g2 : m < 2
            · have HZ : Hd (z = m) := ⟨by rw [HE.out, HK]; unfold ask; simp; rw [if_pos (by omega)]; omega⟩
              clear h1 h2 h3 h4 h5 HK HE
              go_wp2_with fail
              go_ret
              exact ⟨by rw [HZ.out]; go_num, by rw [← HG.out]; exact HB.out⟩
            · have HZ : Hd (z = 2) := ⟨by rw [HE.out, HK]; unfold ask; simp; rw [if_pos (by omega)]; omega⟩
              clear h1 h2 h3 h4 h5 HK HE
              go_wp2_with fail
              go_ret
              exact ⟨by rw [HZ.out]; go_num, by rw [← HG.out]; exact HB.out⟩
          · have HZ : Hd (z = 1) := ⟨by rw [HE.out, HK]; unfold ask; simp; rw [if_neg (by omega)]; omega⟩
            clear h1 h2 h3 h4 h5 HK HE
            go_wp2_with fail
            go_ret
            exact ⟨by rw [HZ.out]; go_num, by rw [← HG.out]; exact HB.out⟩
        have q5 := lit_no h5
        by_cases h6 : x2 = vDe
        · have q6 := lit_yes h6
          have HK : kd x2 = 2 := by unfold kd; rw [if_neg h2, if_neg h1, if_pos (by simp [h6])]
          by_cases g1 : p < x5
          · by_cases g2 : m < 2
            · have HZ : Hd (z = m) := ⟨by rw [HE.out, HK]; unfold ask; simp; rw [if_pos (by omega)]; omega⟩
              clear h1 h2 h3 h4 h5 h6 HK HE
              go_wp2_with fail
              go_ret
              exact ⟨by rw [HZ.out]; go_num, by rw [← HG.out]; exact HB.out⟩
            · have HZ : Hd (z = 2) := ⟨by rw [HE.out, HK]; unfold ask; simp; rw [if_pos (by omega)]; omega⟩
              clear h1 h2 h3 h4 h5 h6 HK HE
              go_wp2_with fail
              go_ret
              exact ⟨by rw [HZ.out]; go_num, by rw [← HG.out]; exact HB.out⟩
          · have HZ : Hd (z = 1) := ⟨by rw [HE.out, HK]; unfold ask; simp; rw [if_neg (by omega)]; omega⟩
            clear h1 h2 h3 h4 h5 h6 HK HE
            go_wp2_with fail
            go_ret
            exact ⟨by rw [HZ.out]; go_num, by rw [← HG.out]; exact HB.out⟩
        have q6 := lit_no h6
        have HK : kd x2 = 3 := by unfold kd; rw [if_neg h2, if_neg h1, if_neg (by simp [h3, h4, h5, h6])]
        have HZ : Hd (z = 1) := ⟨by rw [HE.out, HK]; unfold ask; simp; omega⟩
        clear h1 h2 h3 h4 h5 h6 HK HE
        go_wp2_with fail
        go_ret
        exact ⟨by rw [HZ.out]; go_num, by rw [← HG.out]; exact HB.out⟩
end Go.Proofs.Ytajceffbpobglaa
