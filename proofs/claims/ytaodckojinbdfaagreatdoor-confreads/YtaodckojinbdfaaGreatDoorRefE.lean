/-
  What 'Name', 'Word', 'Good', 'List', 'Join' of the reference answer. Conditions: the lists lie in memory; the text of 'List' has at most 2^14 bytes.
-/
import Derived.Test.YtaodckojinbdfaaGreatDoorRefA
namespace Go.Proofs.YtaodckojinbdfaaGreatDoor
open Go.RowKit Go.Lib

theorem rdigit_ok (n : Int) (w : World) : Calls Tryz.prog 74 #[.int .u8 n] w fun e w' => e = .returned (.bool (isDigit n)) ∧ w' = w := by
  by_cases h1 : 48 ≤ n <;> by_cases h2 : n ≤ 57
  all_goals first | (exfalso; omega) | skip
  all_goals
    go_enter Tryz.func74, Tryz.ntmps74
    go_wp2
    go_ret
    refine ⟨?_, rfl⟩
    simp [isDigit, h1, h2]
theorem rsmall_ok (n : Int) (w : World) : Calls Tryz.prog 73 #[.int .u8 n] w fun e w' => e = .returned (.bool (isSmall n)) ∧ w' = w := by
  by_cases h1 : 97 ≤ n <;> by_cases h2 : n ≤ 122
  all_goals first | (exfalso; omega) | skip
  all_goals
    go_enter Tryz.func73, Tryz.ntmps73
    go_wp2
    go_ret
    refine ⟨?_, rfl⟩
    simp [isSmall, h1, h2]
theorem rgreat_ok (n : Int) (w : World) : Calls Tryz.prog 94 #[.int .u8 n] w fun e w' => e = .returned (.bool (isGreat n)) ∧ w' = w := by
  by_cases h1 : 65 ≤ n <;> by_cases h2 : n ≤ 90
  all_goals first | (exfalso; omega) | skip
  all_goals
    go_enter Tryz.func94, Tryz.ntmps94
    go_wp2
    go_ret
    refine ⟨?_, rfl⟩
    simp [isGreat, h1, h2]

theorem wordB_no {n : Int} (h : isWordB n = false) : isSmall n = false ∧ isGreat n = false ∧ isDigit n = false ∧ (n != 46) = true ∧ (n != 95) = true ∧ (n != 58) = true ∧ (n != 47) = true ∧ (n != 64) = true ∧ (n != 45) = true := by
  unfold isWordB at h
  simp only [Bool.or_eq_false_iff] at h
  obtain ⟨⟨a, b, c, d, e, f⟩, g, h, i⟩ := h
  refine ⟨g, h, i, ?_, ?_, ?_, ?_, ?_, ?_⟩ <;> unfold bne
  · rw [a]; rfl
  · rw [b]; rfl
  · rw [c]; rfl
  · rw [d]; rfl
  · rw [e]; rfl
  · rw [f]; rfl
theorem wordB_yes {n : Int} (h : isWordB n = true) : isSmall n = true ∨ (isSmall n = false ∧ isGreat n = true) ∨ (isSmall n = false ∧ isGreat n = false ∧ isDigit n = true) ∨
    (isSmall n = false ∧ isGreat n = false ∧ isDigit n = false ∧ ((n != 46) = false ∨ ((n != 46) = true ∧ (n != 95) = false) ∨ ((n != 46) = true ∧ (n != 95) = true ∧ (n != 58) = false) ∨ ((n != 46) = true ∧ (n != 95) = true ∧ (n != 58) = true ∧ (n != 47) = false) ∨
      ((n != 46) = true ∧ (n != 95) = true ∧ (n != 58) = true ∧ (n != 47) = true ∧ (n != 64) = false) ∨ ((n != 46) = true ∧ (n != 95) = true ∧ (n != 58) = true ∧ (n != 47) = true ∧ (n != 64) = true ∧ (n != 45) = false))) := by
  unfold isWordB at h
  unfold bne
  revert h
  cases isSmall n <;> cases isGreat n <;> cases isDigit n <;> cases (n == 46) <;> cases (n == 95) <;> cases (n == 58) <;> cases (n == 47) <;> cases (n == 64) <;> cases (n == 45) <;> simp

set_option maxRecDepth 20000 in
theorem rword_ok (s : ByteArray) (hs : s.size ≤ 9223372036854775807) (w : World) :
    Calls Tryz.prog 86 #[.string s] w fun e w' => e = .returned (.bool (isWord s)) ∧ w' = w := by
  have RF : Hd (∀ k (h : k < s.size), isWordB (s[k].toNat : Int) = false → isWord s = false) := ⟨fun k h hb => by
    unfold isWord
    rw [allB_no k h hb]
    simp⟩
  have RT : Hd ((∀ k (h : k < s.size), isWordB (s[k].toNat : Int) = true) → isWord s = (decide (s.size ≤ 64) && (!decide (s.size = 0) && !(s.toList == [45])))) := ⟨fun h => by
    unfold isWord
    rw [(allB_iff _ _).2 h, Bool.true_and]⟩
  go_enter Tryz.func86, Tryz.ntmps86
  go_wp2_with fail
  go_loop [3] (fun i => ∃ k : Nat, k ≤ s.size ∧ i = .int .i64 k ∧ Hd (∀ j (h : j < s.size), j < k → isWordB (s[j].toNat : Int) = true)) (fun i => s.size - (intOf i).toNat)
  case atStart => exact ⟨0, Nat.zero_le _, rfl, ⟨fun j _ h => absurd h (Nat.not_lt_zero _)⟩⟩
  case round =>
    obtain ⟨k, hk, rfl, hp⟩ := hrel
    by_cases hlt : k < s.size
    · have A := rsmall_ok (s[k].toNat : Int)
      have B := rdigit_ok (s[k].toNat : Int)
      have C := rgreat_ok (s[k].toNat : Int)
      cases hW : isWordB (s[k].toNat : Int) with
      | false =>
        obtain ⟨h1, h2, h3, h4, h5, h6, h7, h8, h9⟩ := wordB_no hW
        rw [h1] at A
        rw [h2] at C
        rw [h3] at B
        have R : Hd (isWord s = false) := ⟨RF.out k hlt hW⟩
        clear RF RT hp hW h1 h2 h3
        go_wp2_with (first
          | (go_at_call 73; refine (A _).mono ?_; rintro e w' ⟨rfl, hw⟩; obtain rfl := hw.symm)
          | (go_at_call 94; refine (C _).mono ?_; rintro e w' ⟨rfl, hw⟩; obtain rfl := hw.symm)
          | (go_at_call 74; refine (B _).mono ?_; rintro e w' ⟨rfl, hw⟩; obtain rfl := hw.symm))
        go_ret
        exact ⟨by rw [R.out]; rfl, rfl⟩
      | true =>
        have cases' := wordB_yes hW
        clear RF RT
        rcases cases' with h1 | ⟨h1, h2⟩ | ⟨h1, h2, h3⟩ | ⟨h1, h2, h3, h4 | ⟨h4, h5⟩ | ⟨h4, h5, h6⟩ | ⟨h4, h5, h6, h7⟩ | ⟨h4, h5, h6, h7, h8⟩ | ⟨h4, h5, h6, h7, h8, h9⟩⟩
        · have HW : Hd (isWordB (s[k].toNat : Int) = true) := ⟨hW⟩
          rw [h1] at A
          clear hW h1
          go_wp2_with (first | (go_at_call 73; refine (A _).mono ?_; rintro e w' ⟨rfl, hw⟩; obtain rfl := hw.symm) | (go_at_call 94; refine (C _).mono ?_; rintro e w' ⟨rfl, hw⟩; obtain rfl := hw.symm) | (go_at_call 74; refine (B _).mono ?_; rintro e w' ⟨rfl, hw⟩; obtain rfl := hw.symm))
          go_round
          case rel =>
            refine ⟨k + 1, by omega, by go_num, ⟨fun j h hj => ?_⟩⟩
            by_cases e : j = k
            · subst e; exact HW.out
            · exact hp.out j h (by omega)
          case measure => simp [intOf]; omega
        · have HW : Hd (isWordB (s[k].toNat : Int) = true) := ⟨hW⟩
          rw [h1] at A
          rw [h2] at C
          clear hW h1 h2
          go_wp2_with (first | (go_at_call 73; refine (A _).mono ?_; rintro e w' ⟨rfl, hw⟩; obtain rfl := hw.symm) | (go_at_call 94; refine (C _).mono ?_; rintro e w' ⟨rfl, hw⟩; obtain rfl := hw.symm) | (go_at_call 74; refine (B _).mono ?_; rintro e w' ⟨rfl, hw⟩; obtain rfl := hw.symm))
          go_round
          case rel =>
            refine ⟨k + 1, by omega, by go_num, ⟨fun j h hj => ?_⟩⟩
            by_cases e : j = k
            · subst e; exact HW.out
            · exact hp.out j h (by omega)
          case measure => simp [intOf]; omega
        · have HW : Hd (isWordB (s[k].toNat : Int) = true) := ⟨hW⟩
          rw [h1] at A
          rw [h2] at C
          rw [h3] at B
          clear hW h1 h2 h3
          go_wp2_with (first | (go_at_call 73; refine (A _).mono ?_; rintro e w' ⟨rfl, hw⟩; obtain rfl := hw.symm) | (go_at_call 94; refine (C _).mono ?_; rintro e w' ⟨rfl, hw⟩; obtain rfl := hw.symm) | (go_at_call 74; refine (B _).mono ?_; rintro e w' ⟨rfl, hw⟩; obtain rfl := hw.symm))
          go_round
          case rel =>
            refine ⟨k + 1, by omega, by go_num, ⟨fun j h hj => ?_⟩⟩
            by_cases e : j = k
            · subst e; exact HW.out
            · exact hp.out j h (by omega)
          case measure => simp [intOf]; omega
        · have HW : Hd (isWordB (s[k].toNat : Int) = true) := ⟨hW⟩
          rw [h1] at A
          rw [h2] at C
          rw [h3] at B
          clear hW h1 h2 h3
          go_wp2_with (first | (go_at_call 73; refine (A _).mono ?_; rintro e w' ⟨rfl, hw⟩; obtain rfl := hw.symm) | (go_at_call 94; refine (C _).mono ?_; rintro e w' ⟨rfl, hw⟩; obtain rfl := hw.symm) | (go_at_call 74; refine (B _).mono ?_; rintro e w' ⟨rfl, hw⟩; obtain rfl := hw.symm))
          go_round
          case rel =>
            refine ⟨k + 1, by omega, by go_num, ⟨fun j h hj => ?_⟩⟩
            by_cases e : j = k
            · subst e; exact HW.out
            · exact hp.out j h (by omega)
          case measure => simp [intOf]; omega
        · have HW : Hd (isWordB (s[k].toNat : Int) = true) := ⟨hW⟩
          rw [h1] at A
          rw [h2] at C
          rw [h3] at B
          clear hW h1 h2 h3
          go_wp2_with (first | (go_at_call 73; refine (A _).mono ?_; rintro e w' ⟨rfl, hw⟩; obtain rfl := hw.symm) | (go_at_call 94; refine (C _).mono ?_; rintro e w' ⟨rfl, hw⟩; obtain rfl := hw.symm) | (go_at_call 74; refine (B _).mono ?_; rintro e w' ⟨rfl, hw⟩; obtain rfl := hw.symm))
          go_round
          case rel =>
            refine ⟨k + 1, by omega, by go_num, ⟨fun j h hj => ?_⟩⟩
            by_cases e : j = k
            · subst e; exact HW.out
            · exact hp.out j h (by omega)
          case measure => simp [intOf]; omega
        · have HW : Hd (isWordB (s[k].toNat : Int) = true) := ⟨hW⟩
          rw [h1] at A
          rw [h2] at C
          rw [h3] at B
          clear hW h1 h2 h3
          go_wp2_with (first | (go_at_call 73; refine (A _).mono ?_; rintro e w' ⟨rfl, hw⟩; obtain rfl := hw.symm) | (go_at_call 94; refine (C _).mono ?_; rintro e w' ⟨rfl, hw⟩; obtain rfl := hw.symm) | (go_at_call 74; refine (B _).mono ?_; rintro e w' ⟨rfl, hw⟩; obtain rfl := hw.symm))
          go_round
          case rel =>
            refine ⟨k + 1, by omega, by go_num, ⟨fun j h hj => ?_⟩⟩
            by_cases e : j = k
            · subst e; exact HW.out
            · exact hp.out j h (by omega)
          case measure => simp [intOf]; omega
        · have HW : Hd (isWordB (s[k].toNat : Int) = true) := ⟨hW⟩
          rw [h1] at A
          rw [h2] at C
          rw [h3] at B
          clear hW h1 h2 h3
          go_wp2_with (first | (go_at_call 73; refine (A _).mono ?_; rintro e w' ⟨rfl, hw⟩; obtain rfl := hw.symm) | (go_at_call 94; refine (C _).mono ?_; rintro e w' ⟨rfl, hw⟩; obtain rfl := hw.symm) | (go_at_call 74; refine (B _).mono ?_; rintro e w' ⟨rfl, hw⟩; obtain rfl := hw.symm))
          go_round
          case rel =>
            refine ⟨k + 1, by omega, by go_num, ⟨fun j h hj => ?_⟩⟩
            by_cases e : j = k
            · subst e; exact HW.out
            · exact hp.out j h (by omega)
          case measure => simp [intOf]; omega
        · have HW : Hd (isWordB (s[k].toNat : Int) = true) := ⟨hW⟩
          rw [h1] at A
          rw [h2] at C
          rw [h3] at B
          clear hW h1 h2 h3
          go_wp2_with (first | (go_at_call 73; refine (A _).mono ?_; rintro e w' ⟨rfl, hw⟩; obtain rfl := hw.symm) | (go_at_call 94; refine (C _).mono ?_; rintro e w' ⟨rfl, hw⟩; obtain rfl := hw.symm) | (go_at_call 74; refine (B _).mono ?_; rintro e w' ⟨rfl, hw⟩; obtain rfl := hw.symm))
          go_round
          case rel =>
            refine ⟨k + 1, by omega, by go_num, ⟨fun j h hj => ?_⟩⟩
            by_cases e : j = k
            · subst e; exact HW.out
            · exact hp.out j h (by omega)
          case measure => simp [intOf]; omega
        · have HW : Hd (isWordB (s[k].toNat : Int) = true) := ⟨hW⟩
          rw [h1] at A
          rw [h2] at C
          rw [h3] at B
          clear hW h1 h2 h3
          go_wp2_with (first | (go_at_call 73; refine (A _).mono ?_; rintro e w' ⟨rfl, hw⟩; obtain rfl := hw.symm) | (go_at_call 94; refine (C _).mono ?_; rintro e w' ⟨rfl, hw⟩; obtain rfl := hw.symm) | (go_at_call 74; refine (B _).mono ?_; rintro e w' ⟨rfl, hw⟩; obtain rfl := hw.symm))
          go_round
          case rel =>
            refine ⟨k + 1, by omega, by go_num, ⟨fun j h hj => ?_⟩⟩
            by_cases e : j = k
            · subst e; exact HW.out
            · exact hp.out j h (by omega)
          case measure => simp [intOf]; omega
    · obtain rfl : k = s.size := by omega
      have R : Hd (isWord s = (decide (s.size ≤ 64) && (!decide (s.size = 0) && !(s.toList == [45])))) := ⟨RT.out fun j h => hp.out j h h⟩
      clear RF RT hp
      by_cases z1 : s.size = 0
      · have d1 : decide (s.size = 0) = true := by simpa using z1
        go_wp2_with fail
        go_ret
        exact ⟨by rw [R.out, d1]; simp, rfl⟩
      · have d1 : decide (s.size = 0) = false := by simpa using z1
        have z1' : 1 ≤ s.size := by omega
        by_cases z2 : s.size ≤ 64
        · have d2 : decide (s.size ≤ 64) = true := by simpa using z2
          go_wp2_with fail
          go_ret
          exact ⟨by rw [R.out, d1, d2]; rfl, rfl⟩
        · have d2 : decide (s.size ≤ 64) = false := by simpa using z2
          go_wp2_with fail
          go_ret
          exact ⟨by rw [R.out, d2]; rfl, rfl⟩

end Go.Proofs.YtaodckojinbdfaaGreatDoor
