/-
  How many seats 'width' answers. Conditions: numbers fit their type.
-/
import Derived.Test.YtajceffbpobglaaWd
namespace Go.Proofs.Ytajceffbpobglaa
open Go.RowKit

theorem sp_no {x : ByteArray} (h : isS x = false) : x.toList.isEmpty = true := by unfold isS at h; simpa using h
theorem sp_yes {x : ByteArray} (h : isS x = true) : x.toList.isEmpty = false := by unfold isS at h; simpa using h
set_option maxRecDepth 20000 in
set_option maxHeartbeats 1000000 in
theorem asked_ok {x0 x2 x3 x4 : ByteArray} {x5 : Int} {ag : Option Addr} {ng cg : Nat} (p m : Int) (w : World) (hp : 1 ≤ p) (hp' : p ≤ 9223372036854775807) (hm : 1 ≤ m) (hm' : m ≤ 16) (ho : -9223372036854775808 ≤ x5) (ho' : x5 ≤ 9223372036854775807) :
    Calls Try.prog 10 #[.int .i64 p, .int .i64 m, .agg #[.string x0, .slice ag ng cg, .string x2, .string x3, .string x4, .int .i64 x5]] w fun e w' => e = .returned (.int .i64 (ask p m (max x5 0) (kd x2) (isS x4))) ∧ Below w.heap.size w w' := by
  have HB : Hd (Below w.heap.size w (w.alloc (.cells #[.string x0, .slice ag ng cg, .string x2, .string x3, .string x4, .int .i64 x5] 24))) := ⟨alloc_below _ _⟩
  have N0 := Blk.new w 24 #[.string x0, .slice ag ng cg, .string x2, .string x3, .string x4, .int .i64 x5]
  have d2 := N0.cellv (v := .string x2) 2 rfl
  have d4 := N0.cellv (v := .string x4) 4 rfl
  have d5 := N0.cellv (v := .int .i64 x5) 5 rfl
  have L : Hd (∀ W, Calls Try.prog 11 #[.int .i64 p, .int .i64 (max x5 0), .bool (isS x4)] W fun e w' => e = .returned (.int .i64 (lst p (max x5 0) (isS x4))) ∧ w' = W) := ⟨fun W => listed_ok p (max x5 0) (isS x4) W hp hp' (by omega) (by omega)⟩
  have l1 := lst_one p (max x5 0) (isS x4)
  clear N0
  by_cases h1 : x2 = vDel
  · have q1 := lit_yes h1
    have HE : Hd (ask p m (max x5 0) (kd x2) (isS x4) = min (lst p (max x5 0) (isS x4)) m + 1) := ⟨by rw [h1, kd_del]; rfl⟩
    clear h1
    have LL := L.out (w.alloc (.cells #[.string x0, .slice ag ng cg, .string x2, .string x3, .string x4, .int .i64 x5] 24))
    clear L
    generalize lst p (max x5 0) (isS x4) = y at *
    generalize ask p m (max x5 0) (kd x2) (isS x4) = z at *
    cases hs : isS x4 with
    | false =>
      have s1 := sp_no hs
      rw [hs] at LL
      clear hs
      go_enter Try.func10, Try.ntmps10
      go_wp2_with (go_at_call 11; refine LL.mono ?_; rintro e w' ⟨rfl, hw⟩; obtain rfl := hw.symm)
      go_ret
      exact ⟨by rw [HE.out]; go_num, HB.out⟩
    | true =>
      have s1 := sp_yes hs
      rw [hs] at LL
      clear hs
      go_enter Try.func10, Try.ntmps10
      go_wp2_with (go_at_call 11; refine LL.mono ?_; rintro e w' ⟨rfl, hw⟩; obtain rfl := hw.symm)
      go_ret
      exact ⟨by rw [HE.out]; go_num, HB.out⟩
  have q1 := lit_no h1
  by_cases h2 : x2 = vList
  · have q2 := lit_yes h2
    have HE : Hd (ask p m (max x5 0) (kd x2) (isS x4) = min (lst p (max x5 0) (isS x4)) m) := ⟨by rw [h2, kd_list]; rfl⟩
    clear h1 h2
    have LL := L.out (w.alloc (.cells #[.string x0, .slice ag ng cg, .string x2, .string x3, .string x4, .int .i64 x5] 24))
    clear L
    generalize lst p (max x5 0) (isS x4) = y at *
    generalize ask p m (max x5 0) (kd x2) (isS x4) = z at *
    cases hs : isS x4 with
    | false =>
      have s1 := sp_no hs
      rw [hs] at LL
      clear hs
      go_enter Try.func10, Try.ntmps10
      go_wp2_with (go_at_call 11; refine LL.mono ?_; rintro e w' ⟨rfl, hw⟩; obtain rfl := hw.symm)
      go_ret
      exact ⟨by rw [HE.out]; go_num, HB.out⟩
    | true =>
      have s1 := sp_yes hs
      rw [hs] at LL
      clear hs
      go_enter Try.func10, Try.ntmps10
      go_wp2_with (go_at_call 11; refine LL.mono ?_; rintro e w' ⟨rfl, hw⟩; obtain rfl := hw.symm)
      go_ret
      exact ⟨by rw [HE.out]; go_num, HB.out⟩
  have q2 := lit_no h2
  clear L l1
  by_cases h3 : x2 = vCr
  · have q3 := lit_yes h3
    have HK : kd x2 = 2 := by unfold kd; rw [if_neg h1, if_neg h2, if_pos (by simp [h3])]
    by_cases g : p < max x5 0
    · have HE : Hd (ask p m (max x5 0) (kd x2) (isS x4) = 2) := ⟨by rw [HK]; unfold ask; simp [g]⟩
      generalize ask p m (max x5 0) (kd x2) (isS x4) = z at *
      clear h1 h2 h3 HK
      go_enter Try.func10, Try.ntmps10
      go_wp2_with fail
      go_ret
      exact ⟨by rw [HE.out]; rfl, HB.out⟩
    · have HE : Hd (ask p m (max x5 0) (kd x2) (isS x4) = 1) := ⟨by rw [HK]; unfold ask; simp [g]⟩
      generalize ask p m (max x5 0) (kd x2) (isS x4) = z at *
      clear h1 h2 h3 HK
      go_enter Try.func10, Try.ntmps10
      go_wp2_with fail
      go_ret
      exact ⟨by rw [HE.out]; rfl, HB.out⟩
  have q3 := lit_no h3
  by_cases h4 : x2 = vUp
  · have q4 := lit_yes h4
    have HK : kd x2 = 2 := by unfold kd; rw [if_neg h1, if_neg h2, if_pos (by simp [h4])]
    by_cases g : p < max x5 0
    · have HE : Hd (ask p m (max x5 0) (kd x2) (isS x4) = 2) := ⟨by rw [HK]; unfold ask; simp [g]⟩
      generalize ask p m (max x5 0) (kd x2) (isS x4) = z at *
      clear h1 h2 h3 h4 HK
      go_enter Try.func10, Try.ntmps10
      go_wp2_with fail
      go_ret
      exact ⟨by rw [HE.out]; rfl, HB.out⟩
    · have HE : Hd (ask p m (max x5 0) (kd x2) (isS x4) = 1) := ⟨by rw [HK]; unfold ask; simp [g]⟩
      generalize ask p m (max x5 0) (kd x2) (isS x4) = z at *
      clear h1 h2 h3 h4 HK
      go_enter Try.func10, Try.ntmps10
      go_wp2_with fail
      go_ret
      exact ⟨by rw [HE.out]; rfl, HB.out⟩
  have q4 := lit_no h4
  by_cases h5 : x2 = vPa
  · have q5 := lit_yes h5
    have HK : kd x2 = 2 := by unfold kd; rw [if_neg h1, if_neg h2, if_pos (by simp [h5])]
    by_cases g : p < max x5 0
    · have HE : Hd (ask p m (max x5 0) (kd x2) (isS x4) = 2) := ⟨by rw [HK]; unfold ask; simp [g]⟩
      generalize ask p m (max x5 0) (kd x2) (isS x4) = z at *
      clear h1 h2 h3 h4 h5 HK
      go_enter Try.func10, Try.ntmps10
      go_wp2_with fail
      go_ret
      exact ⟨by rw [HE.out]; rfl, HB.out⟩
    · have HE : Hd (ask p m (max x5 0) (kd x2) (isS x4) = 1) := ⟨by rw [HK]; unfold ask; simp [g]⟩
      generalize ask p m (max x5 0) (kd x2) (isS x4) = z at *
      clear h1 h2 h3 h4 h5 HK
      go_enter Try.func10, Try.ntmps10
      go_wp2_with fail
      go_ret
      exact ⟨by rw [HE.out]; rfl, HB.out⟩
  have q5 := lit_no h5
  by_cases h6 : x2 = vDe
  · have q6 := lit_yes h6
    have HK : kd x2 = 2 := by unfold kd; rw [if_neg h1, if_neg h2, if_pos (by simp [h6])]
    by_cases g : p < max x5 0
    · have HE : Hd (ask p m (max x5 0) (kd x2) (isS x4) = 2) := ⟨by rw [HK]; unfold ask; simp [g]⟩
      generalize ask p m (max x5 0) (kd x2) (isS x4) = z at *
      clear h1 h2 h3 h4 h5 h6 HK
      go_enter Try.func10, Try.ntmps10
      go_wp2_with fail
      go_ret
      exact ⟨by rw [HE.out]; rfl, HB.out⟩
    · have HE : Hd (ask p m (max x5 0) (kd x2) (isS x4) = 1) := ⟨by rw [HK]; unfold ask; simp [g]⟩
      generalize ask p m (max x5 0) (kd x2) (isS x4) = z at *
      clear h1 h2 h3 h4 h5 h6 HK
      go_enter Try.func10, Try.ntmps10
      go_wp2_with fail
      go_ret
      exact ⟨by rw [HE.out]; rfl, HB.out⟩
  have q6 := lit_no h6
  have HK : kd x2 = 3 := by unfold kd; rw [if_neg h1, if_neg h2, if_neg (by simp [h3, h4, h5, h6])]
  have HE : Hd (ask p m (max x5 0) (kd x2) (isS x4) = 1) := ⟨by rw [HK]; rfl⟩
  generalize ask p m (max x5 0) (kd x2) (isS x4) = z at *
  clear h1 h2 h3 h4 h5 h6 HK
  go_enter Try.func10, Try.ntmps10
  go_wp2_with fail
  go_ret
  exact ⟨by rw [HE.out]; rfl, HB.out⟩

theorem seats_ok {x0 x2 x3 x4 : ByteArray} {x5 : Int} {ag : Option Addr} {ng cg : Nat} (per most : Int) (w : World) (hp : -9223372036854775808 ≤ per) (hp' : per ≤ 9223372036854775807) (hm : -9223372036854775808 ≤ most) (hm' : most ≤ 9223372036854775807) (ho : -9223372036854775808 ≤ x5) (ho' : x5 ≤ 9223372036854775807) :
    Calls Try.prog 8 #[.int .i64 per, .int .i64 most, .agg #[.string x0, .slice ag ng cg, .string x2, .string x3, .string x4, .int .i64 x5]] w fun e w' => e = .returned (.int .i64 (seats per most x5 (kd x2) (isS x4))) ∧ Below w.heap.size w w' := by
  have HB : Hd (Below w.heap.size w (w.alloc (.cells #[.string x0, .slice ag ng cg, .string x2, .string x3, .string x4, .int .i64 x5] 24))) := ⟨alloc_below _ _⟩
  have N0 := Blk.new w 24 #[.string x0, .slice ag ng cg, .string x2, .string x3, .string x4, .int .i64 x5]
  have d0 := N0.cellv (v := .string x0) 0 rfl
  have d1 := N0.cellv (v := .slice ag ng cg) 1 rfl
  have d2 := N0.cellv (v := .string x2) 2 rfl
  have d3 := N0.cellv (v := .string x3) 3 rfl
  have d4 := N0.cellv (v := .string x4) 4 rfl
  have d5 := N0.cellv (v := .int .i64 x5) 5 rfl
  have A := asked_ok (x0 := x0) (x2 := x2) (x3 := x3) (x4 := x4) (x5 := x5) (ag := ag) (ng := ng) (cg := cg) (max per 1) (min (max most 1) 16) (w.alloc (.cells #[.string x0, .slice ag ng cg, .string x2, .string x3, .string x4, .int .i64 x5] 24)) (by omega) (by omega) (by omega) (by omega) ho ho'
  have HE : Hd (seats per most x5 (kd x2) (isS x4) = min (ask (max per 1) (min (max most 1) 16) (max x5 0) (kd x2) (isS x4)) (min (max most 1) 16)) := ⟨rfl⟩
  clear N0
  generalize ask (max per 1) (min (max most 1) 16) (max x5 0) (kd x2) (isS x4) = y at *
  generalize seats per most x5 (kd x2) (isS x4) = z at *
  go_enter Try.func8, Try.ntmps8
  go_wp2_with (go_at_call 10; refine A.mono ?_; rintro e w' ⟨rfl, b⟩)
  go_ret
  exact ⟨by rw [HE.out]; go_num, HB.out.trans (b.mono HB.out.size)⟩
theorem awake_ok (w : World) : Calls Try.prog 6 #[] w fun e w' => e = .returned (.bool true) ∧ Below w.heap.size w w' := by
  have A := seats_ok (x0 := ⟨#[]⟩) (x2 := vList) (x3 := ⟨#[]⟩) (x4 := ⟨#[]⟩) (x5 := 250) (ag := none) (ng := 0) (cg := 0) 100 10 w (by omega) (by omega) (by omega) (by omega) (by omega) (by omega)
  rw [show seats 100 10 250 (kd vList) (isS ⟨#[]⟩) = 3 from by decide +kernel] at A
  unfold vList at A
  go_enter Try.func6, Try.ntmps6
  go_wp2_with (go_at_call 8; refine A.mono ?_; rintro e w' ⟨rfl, b⟩)
  go_ret
  exact ⟨rfl, b⟩
end Go.Proofs.Ytajceffbpobglaa
