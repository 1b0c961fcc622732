/-
  What 'Number' of the program answers. No condition but that a text has a length.
-/
import Derived.Test.YtooaojegdhamjaaDoorWalkA
namespace Go.Proofs.YtooaojegdhamjaaDoor
open Go.RowKit

/-- The number that digits are. -/
def valL (l : List UInt8) : Nat := l.foldl (fun n b => n * 10 + (b.toNat - 48)) 0
/-- That of the first k. -/
def valTo (s : ByteArray) (k : Nat) : Nat := valL (s.data.toList.take k)
theorem valTo_zero (s : ByteArray) : valTo s 0 = 0 := by unfold valTo; rw [List.take_zero]; rfl
theorem valTo_succ (s : ByteArray) (k : Nat) (h : k < s.size) : valTo s (k + 1) = valTo s k * 10 + (s[k].toNat - 48) := by
  unfold valTo valL
  rw [List.take_add_one, byte_at s k h, Option.toList_some, List.foldl_append]
  rfl
theorem valTo_all (s : ByteArray) : valTo s s.size = valL s.data.toList := by
  unfold valTo
  rw [List.take_of_length_le (by rw [Array.length_toList]; exact Nat.le_refl _)]
theorem valTo_lt (s : ByteArray) (hd : allB isDigit s = true) : ∀ k, k ≤ s.size → valTo s k < 10 ^ k
  | 0, _ => by rw [valTo_zero]; decide
  | k + 1, h => by
    have ih := valTo_lt s hd k (by omega)
    have := (allB_iff _ _).1 hd k (by omega)
    unfold isDigit at this
    have hb : s[k].toNat - 48 ≤ 9 := by simp at this; omega
    rw [valTo_succ s k (by omega), Nat.pow_succ]
    omega

/-- Is it a number? -/
def isNum (s : ByteArray) : Bool := !(decide (9 < s.size) || (!(allB isDigit s && !decide (s.size = 0)) || (if h : 1 < s.size then (s[0].toNat : Int) == 48 else false)))
/-- The number within bounds. -/
def numIn (s : ByteArray) (least most : Int) : Bool := isNum s && (decide (least ≤ (valL s.data.toList : Int)) && decide ((valL s.data.toList : Int) ≤ most))
def numOf (s : ByteArray) (least most : Int) : Int := if numIn s least most then (valL s.data.toList : Int) else 0

theorem number_no (s : ByteArray) (least most : Int) (hs : s.size ≤ 9223372036854775807) (w : World) (h : isNum s = false) :
    Calls Tryd.prog 55 #[.string s, .int .i64 least, .int .i64 most] w fun e w' => e = .returned (.tuple #[.int .i64 0, .bool false]) ∧ w' = w := by
  have M := made_ok 72 _ ask_digit s hs
  rw [empty_eq] at M
  unfold isNum at h
  by_cases h1 : 9 < s.size
  · go_enter Tryd.func55, Tryd.ntmps55
    go_wp2_with fail
    go_ret2
    exact ⟨rfl, rfl⟩
  have d1 : decide (9 < s.size) = false := by simpa using h1
  rw [d1, Bool.false_or] at h
  cases h2 : (allB isDigit s && !decide (s.size = 0)) <;> rw [h2] at M h
  · clear h
    go_enter Tryd.func55, Tryd.ntmps55
    go_wp2_with (go_at_call 71; refine (M _).mono ?_; rintro e w' ⟨rfl, hw⟩; obtain rfl := hw.symm)
    go_ret2
    exact ⟨rfl, rfl⟩
  · by_cases h3 : 1 < s.size
    · rw [dif_pos h3] at h
      have h4 : ((s[0].toNat : Int) == 48) = true := by simpa using h
      clear h
      go_enter Tryd.func55, Tryd.ntmps55
      go_wp2_with (go_at_call 71; refine (M _).mono ?_; rintro e w' ⟨rfl, hw⟩; obtain rfl := hw.symm)
      go_ret2
      exact ⟨rfl, rfl⟩
    · rw [dif_neg h3] at h
      cases h

theorem isNum_parts {s : ByteArray} (h : isNum s = true) : s.size ≤ 9 ∧ allB isDigit s = true ∧ 1 ≤ s.size ∧ ∀ h1 : 1 < s.size, ((s[0].toNat : Int) == 48) = false := by
  unfold isNum at h
  simp only [Bool.not_eq_true', Bool.or_eq_false_iff, decide_eq_false_iff_not, Bool.not_eq_false', Bool.and_eq_true] at h
  obtain ⟨h1, ⟨h2, h3⟩, h4⟩ := h
  refine ⟨by omega, h2, by omega, fun hh => ?_⟩
  rw [dif_pos hh] at h4
  exact h4

theorem number_go (s : ByteArray) (least most : Int) (w : World) (h : isNum s = true) :
    Calls Tryd.prog 55 #[.string s, .int .i64 least, .int .i64 most] w fun e w' => e = .returned (.tuple #[.int .i64 (numOf s least most), .bool (numIn s least most)]) ∧ w' = w := by
  obtain ⟨h1, h2, h3, h4⟩ := isNum_parts h
  have M := made_ok 72 _ ask_digit s (by omega)
  have d3 : decide (s.size = 0) = false := by simp only [decide_eq_false_iff_not]; omega
  rw [empty_eq, h2, d3] at M
  have V : Hd (∀ k, k ≤ s.size → valTo s k < 10 ^ k) := ⟨valTo_lt s h2⟩
  have D := (allB_iff _ _).1 h2
  have RN : Hd (∀ v : Nat, valTo s s.size = v → numIn s least most = (decide (least ≤ (v : Int)) && decide ((v : Int) ≤ most)) ∧ numOf s least most = if (decide (least ≤ (v : Int)) && decide ((v : Int) ≤ most)) then (v : Int) else 0) := ⟨fun v hv => by
    rw [valTo_all] at hv
    unfold numOf numIn
    rw [h, hv, Bool.true_and]
    exact ⟨rfl, rfl⟩⟩
  clear h h2
  have e4 : ∀ h1 : 1 < s.size, ((s[0].toNat : Int) == 48) = false := h4
  clear h4
  have bytes : ∀ k (hk : k < s.size), 48 ≤ s[k].toNat ∧ s[k].toNat ≤ 57 := fun k hk => by
    have := D k hk
    unfold isDigit at this
    simp at this
    omega
  have B : Hd (∀ k (hk : k < s.size), 48 ≤ s[k].toNat ∧ s[k].toNat ≤ 57) := ⟨bytes⟩
  clear D bytes d3
  have e6 : 1 < s.size ∨ s.size = 1 := by omega
  rcases e6 with hb | hb
  · have e5 := e4 hb
    clear e4
    go_enter Tryd.func55, Tryd.ntmps55
    go_wp2_with (go_at_call 71; refine (M _).mono ?_; rintro e w' ⟨rfl, hw⟩; obtain rfl := hw.symm)
    clear M
    go_loop [8, 30] (fun x i => ∃ k : Nat, k ≤ s.size ∧ i = .int .i64 k ∧ ∃ v : Nat, x = .int .i64 v ∧ Hd (v = valTo s k)) (fun _ i => s.size - (intOf i).toNat)
    case atStart => exact ⟨0, Nat.zero_le _, rfl, 0, rfl, ⟨(valTo_zero s).symm⟩⟩
    case round =>
      obtain ⟨k, hk, rfl, v, rfl, hv⟩ := hrel
      by_cases hlt : k < s.size
      · obtain ⟨b1, b2⟩ := B.out k hlt
        have v1 : v < 10 ^ 9 := by rw [hv.out]; exact Nat.lt_of_lt_of_le (V.out k hk) (Nat.pow_le_pow_right (by decide) (by omega))
        obtain ⟨d, hd⟩ : ∃ d, s[k].toNat = 48 + d := ⟨s[k].toNat - 48, by omega⟩
        have hv' : Hd (v * 10 + d = valTo s (k + 1)) := ⟨by rw [valTo_succ s k hlt, ← hv.out, hd, Nat.add_sub_cancel_left]⟩
        clear hv
        go_wp2
        go_round
        case rel => exact ⟨k + 1, by omega, by go_num, v * 10 + d, by congr 1; omega, hv'⟩
        case measure => simp [intOf]; omega
      · obtain rfl : k = s.size := by omega
        have R : Hd (_ ∧ _) := ⟨RN.out v hv.out.symm⟩
        clear V RN B hv
        by_cases c1 : (v : Int) < least
        · have c2 : decide (least ≤ (v : Int)) = false := by simp; omega
          go_wp2
          go_ret2
          refine ⟨?_, rfl⟩
          rw [R.out.1, R.out.2, c2]
          rfl
        · have c2 : decide (least ≤ (v : Int)) = true := by simp; omega
          by_cases c3 : most < (v : Int)
          · have c4 : decide ((v : Int) ≤ most) = false := by simp; omega
            go_wp2
            go_ret2
            refine ⟨?_, rfl⟩
            rw [R.out.1, R.out.2, c2, c4]
            rfl
          · have c4 : decide ((v : Int) ≤ most) = true := by simp; omega
            go_wp2
            go_ret2
            refine ⟨?_, rfl⟩
            rw [R.out.1, R.out.2, c2, c4]
            rfl
  · clear e4
    go_enter Tryd.func55, Tryd.ntmps55
    go_wp2_with (go_at_call 71; refine (M _).mono ?_; rintro e w' ⟨rfl, hw⟩; obtain rfl := hw.symm)
    clear M
    go_loop [8, 30] (fun x i => ∃ k : Nat, k ≤ s.size ∧ i = .int .i64 k ∧ ∃ v : Nat, x = .int .i64 v ∧ Hd (v = valTo s k)) (fun _ i => s.size - (intOf i).toNat)
    case atStart => exact ⟨0, Nat.zero_le _, rfl, 0, rfl, ⟨(valTo_zero s).symm⟩⟩
    case round =>
      obtain ⟨k, hk, rfl, v, rfl, hv⟩ := hrel
      by_cases hlt : k < s.size
      · obtain ⟨b1, b2⟩ := B.out k hlt
        have v1 : v < 10 ^ 9 := by rw [hv.out]; exact Nat.lt_of_lt_of_le (V.out k hk) (Nat.pow_le_pow_right (by decide) (by omega))
        obtain ⟨d, hd⟩ : ∃ d, s[k].toNat = 48 + d := ⟨s[k].toNat - 48, by omega⟩
        have hv' : Hd (v * 10 + d = valTo s (k + 1)) := ⟨by rw [valTo_succ s k hlt, ← hv.out, hd, Nat.add_sub_cancel_left]⟩
        clear hv
        go_wp2
        go_round
        case rel => exact ⟨k + 1, by omega, by go_num, v * 10 + d, by congr 1; omega, hv'⟩
        case measure => simp [intOf]; omega
      · obtain rfl : k = s.size := by omega
        have R : Hd (_ ∧ _) := ⟨RN.out v hv.out.symm⟩
        clear V RN B hv
        by_cases c1 : (v : Int) < least
        · have c2 : decide (least ≤ (v : Int)) = false := by simp; omega
          go_wp2
          go_ret2
          refine ⟨?_, rfl⟩
          rw [R.out.1, R.out.2, c2]
          rfl
        · have c2 : decide (least ≤ (v : Int)) = true := by simp; omega
          by_cases c3 : most < (v : Int)
          · have c4 : decide ((v : Int) ≤ most) = false := by simp; omega
            go_wp2
            go_ret2
            refine ⟨?_, rfl⟩
            rw [R.out.1, R.out.2, c2, c4]
            rfl
          · have c4 : decide ((v : Int) ≤ most) = true := by simp; omega
            go_wp2
            go_ret2
            refine ⟨?_, rfl⟩
            rw [R.out.1, R.out.2, c2, c4]
            rfl

theorem number_ok (s : ByteArray) (least most : Int) (hs : s.size ≤ 9223372036854775807) (w : World) :
    Calls Tryd.prog 55 #[.string s, .int .i64 least, .int .i64 most] w fun e w' => e = .returned (.tuple #[.int .i64 (numOf s least most), .bool (numIn s least most)]) ∧ w' = w := by
  cases h : isNum s with
  | true => exact number_go s least most w h
  | false =>
    have e1 : numIn s least most = false := by unfold numIn; rw [h]; rfl
    have e2 : numOf s least most = 0 := by unfold numOf; rw [e1]; rfl
    rw [e1, e2]
    exact number_no s least most hs w h

end Go.Proofs.YtooaojegdhamjaaDoor
