/-
  What 'Number' of the reference answers. No condition but that a text has a length.
-/
import Derived.Test.YtaedgkaldafbbaaDoorRefC
namespace Go.Proofs.YtaedgkaldafbbaaDoor
open Go.RowKit Go.Lib

theorem valTo_lt2 (s : ByteArray) : ∀ k, k ≤ s.size → (∀ j (h : j < s.size), j < k → 48 ≤ s[j].toNat ∧ s[j].toNat ≤ 57) → valTo s k < 10 ^ k
  | 0, _, _ => by rw [valTo_zero]; decide
  | k + 1, h, hd => by
    have ih := valTo_lt2 s k (by omega) (fun j hj hk => hd j hj (by omega))
    have hb := hd k (by omega) (by omega)
    rw [valTo_succ s k (by omega), Nat.pow_succ]
    omega
theorem num_bad {s : ByteArray} (k : Nat) (hk : k < s.size) (h : ¬ (48 ≤ s[k].toNat ∧ s[k].toNat ≤ 57)) (least most : Int) : numIn s least most = false ∧ numOf s least most = 0 := by
  have hd : isDigit (s[k].toNat : Int) = false := by unfold isDigit; simp; omega
  have hA := allB_no k hk hd
  have hN : isNum s = false := by
    cases h2 : isNum s with
    | false => rfl
    | true => have := (isNum_parts h2).2.1; rw [hA] at this; cases this
  have e : numIn s least most = false := by unfold numIn; rw [hN]; rfl
  exact ⟨e, by unfold numOf; rw [e]; rfl⟩
theorem num_long {s : ByteArray} (h : 9 < s.size) (least most : Int) : numIn s least most = false ∧ numOf s least most = 0 := by
  have hN : isNum s = false := by
    cases h2 : isNum s with
    | false => rfl
    | true => have := (isNum_parts h2).1; omega
  have e : numIn s least most = false := by unfold numIn; rw [hN]; rfl
  exact ⟨e, by unfold numOf; rw [e]; rfl⟩

set_option maxRecDepth 20000 in
theorem rnumber_ok (s : ByteArray) (least most : Int) (hs : s.size ≤ 9223372036854775807) (w : World) :
    Calls Tryd.prog 16 #[.string s, .int .i64 least, .int .i64 most] w fun e w' => e = .returned (.tuple #[.int .i64 (numOf s least most), .bool (numIn s least most)]) ∧ Below w.heap.size w w' := by
  have HB : Hd (∀ k (hk : k < s.size), ¬ (48 ≤ s[k].toNat ∧ s[k].toNat ≤ 57) → numIn s least most = false ∧ numOf s least most = 0) := ⟨fun k hk h => num_bad k hk h least most⟩
  have HLg : Hd (9 < s.size → numIn s least most = false ∧ numOf s least most = 0) := ⟨fun h => num_long h least most⟩
  have HI : Hd (∀ v : Nat, s.size ≤ 9 → v = valTo s s.size → (∀ j (h : j < s.size), 48 ≤ s[j].toNat ∧ s[j].toNat ≤ 57) →
      (digB (v : Int) ≠ s → numIn s least most = false ∧ numOf s least most = 0) ∧
      (digB (v : Int) = s → numIn s least most = (decide (least ≤ (v : Int)) && decide ((v : Int) ≤ most)) ∧ numOf s least most = if (decide (least ≤ (v : Int)) && decide ((v : Int) ≤ most)) then (v : Int) else 0)) := ⟨fun v h9 hv hd => by
    have hA : allB isDigit s = true := (allB_iff _ _).2 fun j hj => by have := hd j hj; unfold isDigit; simp; omega
    rw [valTo_all] at hv
    subst hv
    have := num_iff s h9 hA
    constructor
    · intro hne
      have hN : isNum s = false := by
        cases h2 : isNum s with
        | false => rfl
        | true => exact absurd (this.1 h2) hne
      have e : numIn s least most = false := by unfold numIn; rw [hN]; rfl
      exact ⟨e, by unfold numOf; rw [e]; rfl⟩
    · intro he
      unfold numOf numIn
      rw [this.2 he, Bool.true_and]
      exact ⟨rfl, rfl⟩⟩
  have HV : Hd (∀ k, k ≤ s.size → k ≤ 10 → (∀ j (h : j < s.size), j < k → 48 ≤ s[j].toNat ∧ s[j].toNat ≤ 57) → valTo s k < 10 ^ 10) := ⟨fun k h1 h2 h3 => Nat.lt_of_lt_of_le (valTo_lt2 s k h1 h3) (Nat.pow_le_pow_right (by decide) h2)⟩
  go_enter Tryd.func16, Tryd.ntmps16
  go_wp2_with fail
  go_loop [8, 9] (fun x i => ∃ k v : Nat, k ≤ s.size ∧ k ≤ 10 ∧ i = .int .i64 k ∧ x = .int .i64 v ∧ Hd (v = valTo s k ∧ ∀ j (h : j < s.size), j < k → 48 ≤ s[j].toNat ∧ s[j].toNat ≤ 57)) (fun _ i => 10 - (intOf i).toNat)
  case atStart => exact ⟨0, 0, Nat.zero_le _, Nat.zero_le _, rfl, rfl, ⟨(valTo_zero s).symm, fun j _ h => absurd h (Nat.not_lt_zero _)⟩⟩
  case round =>
    obtain ⟨k, v, hk, hk10, rfl, rfl, hv⟩ := hrel
    have hvl : v < 10 ^ 10 := by rw [hv.out.1]; exact HV.out k hk hk10 hv.out.2
    by_cases hlt : k < s.size
    · by_cases hlt10 : k < 10
      · by_cases hlo : (s[k].toNat : Int) < 48
        · have R : Hd (_ ∧ _) := ⟨HB.out k hlt (by omega)⟩
          clear HB HLg HI HV hv
          go_wp2_with fail
          go_ret2
          exact ⟨by rw [R.out.1, R.out.2]; rfl, Below.refl _ _⟩
        · by_cases hhi : 57 < (s[k].toNat : Int)
          · have R : Hd (_ ∧ _) := ⟨HB.out k hlt (by omega)⟩
            clear HB HLg HI HV hv
            go_wp2_with fail
            go_ret2
            exact ⟨by rw [R.out.1, R.out.2]; rfl, Below.refl _ _⟩
          · have hv' : Hd (v * 10 + (s[k].toNat - 48) = valTo s (k + 1) ∧ ∀ j (h : j < s.size), j < k + 1 → 48 ≤ s[j].toNat ∧ s[j].toNat ≤ 57) := ⟨by rw [valTo_succ s k hlt, ← hv.out.1], fun j h hj => by
              by_cases e : j = k
              · subst e; omega
              · exact hv.out.2 j h (by omega)⟩
            have hbyte : s[k].toNat < 256 := s[k].toNat_lt
            clear HB HLg HI HV hv
            go_wp2_with fail
            go_round
            case rel => exact ⟨k + 1, v * 10 + (s[k].toNat - 48), by omega, by omega, by go_num, by congr 1; omega, hv'⟩
            case measure => simp [intOf]; omega
      · obtain rfl : k = 10 := by omega
        have R : Hd (_ ∧ _) := ⟨HLg.out (by omega)⟩
        clear HB HLg HI HV hv
        go_wp2_with fail
        go_ret2
        exact ⟨by rw [R.out.1, R.out.2]; rfl, Below.refl _ _⟩
    · obtain rfl : k = s.size := by omega
      by_cases h9 : 9 < s.size
      · have R : Hd (_ ∧ _) := ⟨HLg.out h9⟩
        clear HB HLg HI HV hv
        go_wp2_with fail
        go_ret2
        exact ⟨by rw [R.out.1, R.out.2]; rfl, Below.refl _ _⟩
      · obtain ⟨i1, i2⟩ := HI.out v (by omega) hv.out.1 (fun j hj => hv.out.2 j hj hj)
        have D := fun w => rdigits_ok (v : Int) w (by omega)
        by_cases he : digB (v : Int) = s
        · have R : Hd (_ ∧ _) := ⟨i2 he⟩
          rw [he] at D
          clear HB HLg HI HV hv i1 i2 he
          by_cases c1 : (v : Int) < least
          · have c2 : decide (least ≤ (v : Int)) = false := by simp; omega
            go_wp2_with (go_at_call 20; refine (D _).mono ?_; rintro e w1 ⟨rfl, hb1⟩)
            go_ret2
            exact ⟨by rw [R.out.1, R.out.2, c2]; rfl, hb1⟩
          · have c2 : decide (least ≤ (v : Int)) = true := by simp; omega
            by_cases c3 : most < (v : Int)
            · have c4 : decide ((v : Int) ≤ most) = false := by simp; omega
              go_wp2_with (go_at_call 20; refine (D _).mono ?_; rintro e w1 ⟨rfl, hb1⟩)
              go_ret2
              exact ⟨by rw [R.out.1, R.out.2, c2, c4]; rfl, hb1⟩
            · have c4 : decide ((v : Int) ≤ most) = true := by simp; omega
              go_wp2_with (go_at_call 20; refine (D _).mono ?_; rintro e w1 ⟨rfl, hb1⟩)
              go_ret2
              exact ⟨by rw [R.out.1, R.out.2, c2, c4]; rfl, hb1⟩
        · have R : Hd (_ ∧ _) := ⟨i1 he⟩
          have ne := str_ne he
          clear HB HLg HI HV hv i1 i2 he
          generalize digB (v : Int) = y at *
          go_wp2_with (go_at_call 20; refine (D _).mono ?_; rintro e w1 ⟨rfl, hb1⟩)
          go_ret2
          exact ⟨by rw [R.out.1, R.out.2]; rfl, hb1⟩

end Go.Proofs.YtaedgkaldafbbaaDoor
