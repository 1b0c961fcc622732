/-
  The reference of layers 8 and 10 (RefD). Conditions: what is read lies in memory.
  The reference of layers 8 and 10 (RefA). Conditions: what is read lies in memory.
  The reference of layers 8 and 10 (RefE). Conditions: what is read lies in memory.
-/
import Derived.Test.YtfollcabppkihaaDoorD20
import Derived.Test.YtfollcabppkihaaDoorD2
namespace Go.Proofs.YtfollcabppkihaaDoor
open Go.RowKit Go.Lib

theorem valTo_lt2 (s : ByteArray) : ∀ k, k ≤ s.size → (∀ j (h : j < s.size), j < k → 48 ≤ s[j].toNat ∧ s[j].toNat ≤ 57) → valTo s k < 10 ^ k
  | 0, _, _ => by rw [valTo_zero]; decide
  | k + 1, h, hd => by
    have ih := valTo_lt2 s k (by omega) (fun j hj hk => hd j hj (by omega))
    have hb := hd k (by omega) (by omega)
    rw [valTo_succ s k (by omega), Nat.pow_succ]
    omega

theorem num_bad {s : ByteArray} (k : Nat) (hk : k < s.size) (h : ¬ (48 ≤ s[k].toNat ∧ s[k].toNat ≤ 57)) (least most : Int) : numIn s least most = false ∧ numOf s least most = 0 := by
  have hd : isDigit (s[k].toNat : Int) = false := by unfold isDigit; simp; omega
  have hA := allB_no k hk hd
  have hN : isNum s = false := by
    cases h2 : isNum s with
    | false => rfl
    | true => have := (isNum_parts h2).2.1; rw [hA] at this; cases this
  have e : numIn s least most = false := by unfold numIn; rw [hN]; rfl
  exact ⟨e, by unfold numOf; rw [e]; rfl⟩

theorem num_long {s : ByteArray} (h : 9 < s.size) (least most : Int) : numIn s least most = false ∧ numOf s least most = 0 := by
  have hN : isNum s = false := by
    cases h2 : isNum s with
    | false => rfl
    | true => have := (isNum_parts h2).1; omega
  have e : numIn s least most = false := by unfold numIn; rw [hN]; rfl
  exact ⟨e, by unfold numOf; rw [e]; rfl⟩

set_option maxRecDepth 20000 in
theorem rnumber_ok (s : ByteArray) (least most : Int) (hs : s.size ≤ 9223372036854775807) (w : World) :
    Calls Tryd.prog 61 #[.string s, .int .i64 least, .int .i64 most] w fun e w' => e = .returned (.tuple #[.int .i64 (numOf s least most), .bool (numIn s least most)]) ∧ Below w.heap.size w w' := by
  have HB : Hd (∀ k (hk : k < s.size), ¬ (48 ≤ s[k].toNat ∧ s[k].toNat ≤ 57) → numIn s least most = false ∧ numOf s least most = 0) := ⟨fun k hk h => num_bad k hk h least most⟩
  have HLg : Hd (9 < s.size → numIn s least most = false ∧ numOf s least most = 0) := ⟨fun h => num_long h least most⟩
  have HI : Hd (∀ v : Nat, s.size ≤ 9 → v = valTo s s.size → (∀ j (h : j < s.size), 48 ≤ s[j].toNat ∧ s[j].toNat ≤ 57) →
      (digB (v : Int) ≠ s → numIn s least most = false ∧ numOf s least most = 0) ∧
      (digB (v : Int) = s → numIn s least most = (decide (least ≤ (v : Int)) && decide ((v : Int) ≤ most)) ∧ numOf s least most = if (decide (least ≤ (v : Int)) && decide ((v : Int) ≤ most)) then (v : Int) else 0)) := ⟨fun v h9 hv hd => by
    have hA : allB isDigit s = true := (allB_iff _ _).2 fun j hj => by have := hd j hj; unfold isDigit; simp; omega
    rw [valTo_all] at hv
    subst hv
    have := num_iff s h9 hA
    constructor
    · intro hne
      have hN : isNum s = false := by
        cases h2 : isNum s with
        | false => rfl
        | true => exact absurd (this.1 h2) hne
      have e : numIn s least most = false := by unfold numIn; rw [hN]; rfl
      exact ⟨e, by unfold numOf; rw [e]; rfl⟩
    · intro he
      unfold numOf numIn
      rw [this.2 he, Bool.true_and]
      exact ⟨rfl, rfl⟩⟩
  have HV : Hd (∀ k, k ≤ s.size → k ≤ 10 → (∀ j (h : j < s.size), j < k → 48 ≤ s[j].toNat ∧ s[j].toNat ≤ 57) → valTo s k < 10 ^ 10) := ⟨fun k h1 h2 h3 => Nat.lt_of_lt_of_le (valTo_lt2 s k h1 h3) (Nat.pow_le_pow_right (by decide) h2)⟩
  go_enter Tryd.func61, Tryd.ntmps61
  go_wp2_with fail
  go_loop [8, 9] (fun x i => ∃ k v : Nat, k ≤ s.size ∧ k ≤ 10 ∧ i = .int .i64 k ∧ x = .int .i64 v ∧ Hd (v = valTo s k ∧ ∀ j (h : j < s.size), j < k → 48 ≤ s[j].toNat ∧ s[j].toNat ≤ 57)) (fun _ i => 10 - (intOf i).toNat)
  case atStart => exact ⟨0, 0, Nat.zero_le _, Nat.zero_le _, rfl, rfl, ⟨(valTo_zero s).symm, fun j _ h => absurd h (Nat.not_lt_zero _)⟩⟩
  case round =>
    obtain ⟨k, v, hk, hk10, rfl, rfl, hv⟩ := hrel
    have hvl : v < 10 ^ 10 := by rw [hv.out.1]; exact HV.out k hk hk10 hv.out.2
    by_cases hlt : k < s.size
    · by_cases hlt10 : k < 10
      · by_cases hlo : (s[k].toNat : Int) < 48
        · have R : Hd (_ ∧ _) := ⟨HB.out k hlt (by omega)⟩
          clear HB HLg HI HV hv
          go_wp2_with fail
          go_ret2
          exact ⟨by rw [R.out.1, R.out.2]; rfl, Below.refl _ _⟩
        · by_cases hhi : 57 < (s[k].toNat : Int)
          · have R : Hd (_ ∧ _) := ⟨HB.out k hlt (by omega)⟩
            clear HB HLg HI HV hv
            go_wp2_with fail
            go_ret2
            exact ⟨by rw [R.out.1, R.out.2]; rfl, Below.refl _ _⟩
          · have hv' : Hd (v * 10 + (s[k].toNat - 48) = valTo s (k + 1) ∧ ∀ j (h : j < s.size), j < k + 1 → 48 ≤ s[j].toNat ∧ s[j].toNat ≤ 57) := ⟨by rw [valTo_succ s k hlt, ← hv.out.1], fun j h hj => by
              by_cases e : j = k
              · subst e; omega
              · exact hv.out.2 j h (by omega)⟩
            have hbyte : s[k].toNat < 256 := s[k].toNat_lt
            clear HB HLg HI HV hv
            go_wp2_with fail
            go_round
            case rel => exact ⟨k + 1, v * 10 + (s[k].toNat - 48), by omega, by omega, by go_num, by congr 1; omega, hv'⟩
            case measure => simp [intOf]; omega
      · obtain rfl : k = 10 := by omega
        have R : Hd (_ ∧ _) := ⟨HLg.out (by omega)⟩
        clear HB HLg HI HV hv
        go_wp2_with fail
        go_ret2
        exact ⟨by rw [R.out.1, R.out.2]; rfl, Below.refl _ _⟩
    · obtain rfl : k = s.size := by omega
      by_cases h9 : 9 < s.size
      · have R : Hd (_ ∧ _) := ⟨HLg.out h9⟩
        clear HB HLg HI HV hv
        go_wp2_with fail
        go_ret2
        exact ⟨by rw [R.out.1, R.out.2]; rfl, Below.refl _ _⟩
      · obtain ⟨i1, i2⟩ := HI.out v (by omega) hv.out.1 (fun j hj => hv.out.2 j hj hj)
        have D := fun w => rdigits_ok (v : Int) w (by omega)
        by_cases he : digB (v : Int) = s
        · have R : Hd (_ ∧ _) := ⟨i2 he⟩
          rw [he] at D
          clear HB HLg HI HV hv i1 i2 he
          by_cases c1 : (v : Int) < least
          · have c2 : decide (least ≤ (v : Int)) = false := by simp; omega
            go_wp2_with (go_at_call 53; refine (D _).mono ?_; rintro e w1 ⟨rfl, hb1⟩)
            go_ret2
            exact ⟨by rw [R.out.1, R.out.2, c2]; rfl, hb1⟩
          · have c2 : decide (least ≤ (v : Int)) = true := by simp; omega
            by_cases c3 : most < (v : Int)
            · have c4 : decide ((v : Int) ≤ most) = false := by simp; omega
              go_wp2_with (go_at_call 53; refine (D _).mono ?_; rintro e w1 ⟨rfl, hb1⟩)
              go_ret2
              exact ⟨by rw [R.out.1, R.out.2, c2, c4]; rfl, hb1⟩
            · have c4 : decide ((v : Int) ≤ most) = true := by simp; omega
              go_wp2_with (go_at_call 53; refine (D _).mono ?_; rintro e w1 ⟨rfl, hb1⟩)
              go_ret2
              exact ⟨by rw [R.out.1, R.out.2, c2, c4]; rfl, hb1⟩
        · have R : Hd (_ ∧ _) := ⟨i1 he⟩
          have ne := str_ne he
          clear HB HLg HI HV hv i1 i2 he
          generalize digB (v : Int) = y at *
          go_wp2_with (go_at_call 53; refine (D _).mono ?_; rintro e w1 ⟨rfl, hb1⟩)
          go_ret2
          exact ⟨by rw [R.out.1, R.out.2]; rfl, hb1⟩


end Go.Proofs.YtfollcabppkihaaDoor

namespace Go.Proofs.YtfollcabppkihaaDoor
open Go.RowKit Go.Lib

/-- The pieces so far, from where the next one begins, how far it was looked. -/
structure Cut (c : UInt8) (s : ByteArray) (P : List ByteArray) (fr i : Nat) : Prop where
  all : cutB c s = P ++ (cutL c (s.data.toList.drop fr)).map mk
  le : fr ≤ i
  none : ∀ j, fr ≤ j → j < i → s.data.toList[j]? ≠ some c

theorem no_byte {c : UInt8} {l : List UInt8} {a b : Nat} (h : ∀ j, a ≤ j → j < b → l[j]? ≠ some c) : c ∉ (l.drop a).take (b - a) := fun hm => by
  obtain ⟨k, hk, e⟩ := List.getElem_of_mem hm
  rw [List.length_take, List.length_drop] at hk
  rw [List.getElem_take, List.getElem_drop] at e
  exact h (a + k) (by omega) (by omega) (by rw [List.getElem?_eq_getElem (by omega), e])

theorem Cut.start (c : UInt8) (s : ByteArray) : Cut c s [] 0 0 := ⟨rfl, Nat.le_refl _, fun _ _ h => absurd h (Nat.not_lt_zero _)⟩

theorem Cut.miss {c : UInt8} {s : ByteArray} {P : List ByteArray} {fr i : Nat} (h : Cut c s P fr i) (hi : i < s.size) (hne : s[i] ≠ c) : Cut c s P fr (i + 1) :=
  ⟨h.all, by have := h.le; omega, fun j h1 h2 => by
    by_cases e : j = i
    · subst e; rw [byte_at s j hi]; intro e2; exact hne (Option.some.inj e2)
    · exact h.none j h1 (by omega)⟩

theorem Cut.hit {c : UInt8} {s : ByteArray} {P : List ByteArray} {fr i : Nat} (h : Cut c s P fr i) (hi : i < s.size) (he : s[i] = c) : Cut c s (P ++ [s.extract fr i]) (i + 1) (i + 1) := by
  refine ⟨?_, Nat.le_refl _, fun j h1 h2 => by omega⟩
  have hle := h.le
  have hl : i < s.data.toList.length := by rw [size_list]; exact hi
  have hd : s.data.toList.drop i = c :: s.data.toList.drop (i + 1) := by
    rw [List.drop_eq_getElem_cons hl]
    congr 1
  have e : s.data.toList.drop fr = (s.data.toList.drop fr).take (i - fr) ++ c :: s.data.toList.drop (i + 1) := by
    rw [← hd]
    conv => lhs; rw [← List.take_append_drop (i - fr) (s.data.toList.drop fr), List.drop_drop]
    rw [show fr + (i - fr) = i by omega]
  have e2 : cutL c (s.data.toList.drop fr) = (s.data.toList.drop fr).take (i - fr) :: cutL c (s.data.toList.drop (i + 1)) := by
    conv => lhs; rw [e]
    exact cutL_at c _ _ (no_byte h.none)
  rw [h.all, e2, List.map_cons, ext_list, List.append_assoc]
  rfl

theorem Cut.fin {c : UInt8} {s : ByteArray} {P : List ByteArray} {fr : Nat} (h : Cut c s P fr s.size) : P ++ [s.extract fr s.size] = cutB c s := by
  have nb := no_byte h.none
  have e : (s.data.toList.drop fr).take (s.size - fr) = s.data.toList.drop fr := List.take_of_length_le (by rw [List.length_drop, size_list]; exact Nat.le_refl _)
  rw [e] at nb
  rw [h.all, cutL_plain c _ nb, ext_list, e]
  rfl

theorem OwnT.shape2 {B : Nat} {w : World} {v : Value} {L : List ByteArray} (h : OwnT B w v L) : ∃ a c, v = .slice a L.length c ∧ RowL w a L ∧ L.length ≤ c := by
  obtain ⟨a, c, e, hr⟩ := h.shape
  refine ⟨a, c, e, hr, ?_⟩
  rcases h.2 with ⟨e2, h0⟩ | ⟨g, cap, cur, e2, hb, hg, hle, rest⟩
  · omega
  · rw [e] at e2
    injection e2 with _ _ e3
    omega


end Go.Proofs.YtfollcabppkihaaDoor

namespace Go.Proofs.YtfollcabppkihaaDoor
open Go.RowKit Go.Lib

theorem rdigit_ok (n : Int) (w : World) : Calls Tryd.prog 74 #[.int .u8 n] w fun e w' => e = .returned (.bool (isDigit n)) ∧ w' = w := by
  by_cases h1 : 48 ≤ n <;> by_cases h2 : n ≤ 57
  all_goals first | (exfalso; omega) | skip
  all_goals
    go_enter Tryd.func74, Tryd.ntmps74
    go_wp2
    go_ret
    refine ⟨?_, rfl⟩
    simp [isDigit, h1, h2]

theorem rsmall_ok (n : Int) (w : World) : Calls Tryd.prog 73 #[.int .u8 n] w fun e w' => e = .returned (.bool (isSmall n)) ∧ w' = w := by
  by_cases h1 : 97 ≤ n <;> by_cases h2 : n ≤ 122
  all_goals first | (exfalso; omega) | skip
  all_goals
    go_enter Tryd.func73, Tryd.ntmps73
    go_wp2
    go_ret
    refine ⟨?_, rfl⟩
    simp [isSmall, h1, h2]

theorem rgreat_ok (n : Int) (w : World) : Calls Tryd.prog 85 #[.int .u8 n] w fun e w' => e = .returned (.bool (isGreat n)) ∧ w' = w := by
  by_cases h1 : 65 ≤ n <;> by_cases h2 : n ≤ 90
  all_goals first | (exfalso; omega) | skip
  all_goals
    go_enter Tryd.func85, Tryd.ntmps85
    go_wp2
    go_ret
    refine ⟨?_, rfl⟩
    simp [isGreat, h1, h2]

theorem wordB_no {n : Int} (h : isWordB n = false) : isSmall n = false ∧ isGreat n = false ∧ isDigit n = false ∧ (n != 46) = true ∧ (n != 95) = true ∧ (n != 58) = true ∧ (n != 47) = true ∧ (n != 64) = true ∧ (n != 45) = true := by
  unfold isWordB at h
  simp only [Bool.or_eq_false_iff] at h
  obtain ⟨⟨a, b, c, d, e, f⟩, g, h, i⟩ := h
  refine ⟨g, h, i, ?_, ?_, ?_, ?_, ?_, ?_⟩ <;> unfold bne
  · rw [a]; rfl
  · rw [b]; rfl
  · rw [c]; rfl
  · rw [d]; rfl
  · rw [e]; rfl
  · rw [f]; rfl

theorem wordB_yes {n : Int} (h : isWordB n = true) : isSmall n = true ∨ (isSmall n = false ∧ isGreat n = true) ∨ (isSmall n = false ∧ isGreat n = false ∧ isDigit n = true) ∨
    (isSmall n = false ∧ isGreat n = false ∧ isDigit n = false ∧ ((n != 46) = false ∨ ((n != 46) = true ∧ (n != 95) = false) ∨ ((n != 46) = true ∧ (n != 95) = true ∧ (n != 58) = false) ∨ ((n != 46) = true ∧ (n != 95) = true ∧ (n != 58) = true ∧ (n != 47) = false) ∨
      ((n != 46) = true ∧ (n != 95) = true ∧ (n != 58) = true ∧ (n != 47) = true ∧ (n != 64) = false) ∨ ((n != 46) = true ∧ (n != 95) = true ∧ (n != 58) = true ∧ (n != 47) = true ∧ (n != 64) = true ∧ (n != 45) = false))) := by
  unfold isWordB at h
  unfold bne
  revert h
  cases isSmall n <;> cases isGreat n <;> cases isDigit n <;> cases (n == 46) <;> cases (n == 95) <;> cases (n == 58) <;> cases (n == 47) <;> cases (n == 64) <;> cases (n == 45) <;> simp

set_option maxRecDepth 20000 in
theorem rword_ok (s : ByteArray) (hs : s.size ≤ 9223372036854775807) (w : World) :
    Calls Tryd.prog 77 #[.string s] w fun e w' => e = .returned (.bool (isWord s)) ∧ w' = w := by
  have RF : Hd (∀ k (h : k < s.size), isWordB (s[k].toNat : Int) = false → isWord s = false) := ⟨fun k h hb => by
    unfold isWord
    rw [allB_no k h hb]
    simp⟩
  have RT : Hd ((∀ k (h : k < s.size), isWordB (s[k].toNat : Int) = true) → isWord s = (decide (s.size ≤ 64) && (!decide (s.size = 0) && !(s.toList == [45])))) := ⟨fun h => by
    unfold isWord
    rw [(allB_iff _ _).2 h, Bool.true_and]⟩
  go_enter Tryd.func77, Tryd.ntmps77
  go_wp2_with fail
  go_loop [3] (fun i => ∃ k : Nat, k ≤ s.size ∧ i = .int .i64 k ∧ Hd (∀ j (h : j < s.size), j < k → isWordB (s[j].toNat : Int) = true)) (fun i => s.size - (intOf i).toNat)
  case atStart => exact ⟨0, Nat.zero_le _, rfl, ⟨fun j _ h => absurd h (Nat.not_lt_zero _)⟩⟩
  case round =>
    obtain ⟨k, hk, rfl, hp⟩ := hrel
    by_cases hlt : k < s.size
    · have A := rsmall_ok (s[k].toNat : Int)
      have B := rdigit_ok (s[k].toNat : Int)
      have C := rgreat_ok (s[k].toNat : Int)
      cases hW : isWordB (s[k].toNat : Int) with
      | false =>
        obtain ⟨h1, h2, h3, h4, h5, h6, h7, h8, h9⟩ := wordB_no hW
        rw [h1] at A
        rw [h2] at C
        rw [h3] at B
        have R : Hd (isWord s = false) := ⟨RF.out k hlt hW⟩
        clear RF RT hp hW h1 h2 h3
        go_wp2_with (first
          | (go_at_call 73; refine (A _).mono ?_; rintro e w' ⟨rfl, hw⟩; obtain rfl := hw.symm)
          | (go_at_call 85; refine (C _).mono ?_; rintro e w' ⟨rfl, hw⟩; obtain rfl := hw.symm)
          | (go_at_call 74; refine (B _).mono ?_; rintro e w' ⟨rfl, hw⟩; obtain rfl := hw.symm))
        go_ret
        exact ⟨by rw [R.out]; rfl, rfl⟩
      | true =>
        have cases' := wordB_yes hW
        clear RF RT
        rcases cases' with h1 | ⟨h1, h2⟩ | ⟨h1, h2, h3⟩ | ⟨h1, h2, h3, h4 | ⟨h4, h5⟩ | ⟨h4, h5, h6⟩ | ⟨h4, h5, h6, h7⟩ | ⟨h4, h5, h6, h7, h8⟩ | ⟨h4, h5, h6, h7, h8, h9⟩⟩
        · have HW : Hd (isWordB (s[k].toNat : Int) = true) := ⟨hW⟩
          rw [h1] at A
          clear hW h1
          go_wp2_with (first | (go_at_call 73; refine (A _).mono ?_; rintro e w' ⟨rfl, hw⟩; obtain rfl := hw.symm) | (go_at_call 85; refine (C _).mono ?_; rintro e w' ⟨rfl, hw⟩; obtain rfl := hw.symm) | (go_at_call 74; refine (B _).mono ?_; rintro e w' ⟨rfl, hw⟩; obtain rfl := hw.symm))
          go_round
          case rel =>
            refine ⟨k + 1, by omega, by go_num, ⟨fun j h hj => ?_⟩⟩
            by_cases e : j = k
            · subst e; exact HW.out
            · exact hp.out j h (by omega)
          case measure => simp [intOf]; omega
        · have HW : Hd (isWordB (s[k].toNat : Int) = true) := ⟨hW⟩
          rw [h1] at A
          rw [h2] at C
          clear hW h1 h2
          go_wp2_with (first | (go_at_call 73; refine (A _).mono ?_; rintro e w' ⟨rfl, hw⟩; obtain rfl := hw.symm) | (go_at_call 85; refine (C _).mono ?_; rintro e w' ⟨rfl, hw⟩; obtain rfl := hw.symm) | (go_at_call 74; refine (B _).mono ?_; rintro e w' ⟨rfl, hw⟩; obtain rfl := hw.symm))
          go_round
          case rel =>
            refine ⟨k + 1, by omega, by go_num, ⟨fun j h hj => ?_⟩⟩
            by_cases e : j = k
            · subst e; exact HW.out
            · exact hp.out j h (by omega)
          case measure => simp [intOf]; omega
        · have HW : Hd (isWordB (s[k].toNat : Int) = true) := ⟨hW⟩
          rw [h1] at A
          rw [h2] at C
          rw [h3] at B
          clear hW h1 h2 h3
          go_wp2_with (first | (go_at_call 73; refine (A _).mono ?_; rintro e w' ⟨rfl, hw⟩; obtain rfl := hw.symm) | (go_at_call 85; refine (C _).mono ?_; rintro e w' ⟨rfl, hw⟩; obtain rfl := hw.symm) | (go_at_call 74; refine (B _).mono ?_; rintro e w' ⟨rfl, hw⟩; obtain rfl := hw.symm))
          go_round
          case rel =>
            refine ⟨k + 1, by omega, by go_num, ⟨fun j h hj => ?_⟩⟩
            by_cases e : j = k
            · subst e; exact HW.out
            · exact hp.out j h (by omega)
          case measure => simp [intOf]; omega
        · have HW : Hd (isWordB (s[k].toNat : Int) = true) := ⟨hW⟩
          rw [h1] at A
          rw [h2] at C
          rw [h3] at B
          clear hW h1 h2 h3
          go_wp2_with (first | (go_at_call 73; refine (A _).mono ?_; rintro e w' ⟨rfl, hw⟩; obtain rfl := hw.symm) | (go_at_call 85; refine (C _).mono ?_; rintro e w' ⟨rfl, hw⟩; obtain rfl := hw.symm) | (go_at_call 74; refine (B _).mono ?_; rintro e w' ⟨rfl, hw⟩; obtain rfl := hw.symm))
          go_round
          case rel =>
            refine ⟨k + 1, by omega, by go_num, ⟨fun j h hj => ?_⟩⟩
            by_cases e : j = k
            · subst e; exact HW.out
            · exact hp.out j h (by omega)
          case measure => simp [intOf]; omega
        · have HW : Hd (isWordB (s[k].toNat : Int) = true) := ⟨hW⟩
          rw [h1] at A
          rw [h2] at C
          rw [h3] at B
          clear hW h1 h2 h3
          go_wp2_with (first | (go_at_call 73; refine (A _).mono ?_; rintro e w' ⟨rfl, hw⟩; obtain rfl := hw.symm) | (go_at_call 85; refine (C _).mono ?_; rintro e w' ⟨rfl, hw⟩; obtain rfl := hw.symm) | (go_at_call 74; refine (B _).mono ?_; rintro e w' ⟨rfl, hw⟩; obtain rfl := hw.symm))
          go_round
          case rel =>
            refine ⟨k + 1, by omega, by go_num, ⟨fun j h hj => ?_⟩⟩
            by_cases e : j = k
            · subst e; exact HW.out
            · exact hp.out j h (by omega)
          case measure => simp [intOf]; omega
        · have HW : Hd (isWordB (s[k].toNat : Int) = true) := ⟨hW⟩
          rw [h1] at A
          rw [h2] at C
          rw [h3] at B
          clear hW h1 h2 h3
          go_wp2_with (first | (go_at_call 73; refine (A _).mono ?_; rintro e w' ⟨rfl, hw⟩; obtain rfl := hw.symm) | (go_at_call 85; refine (C _).mono ?_; rintro e w' ⟨rfl, hw⟩; obtain rfl := hw.symm) | (go_at_call 74; refine (B _).mono ?_; rintro e w' ⟨rfl, hw⟩; obtain rfl := hw.symm))
          go_round
          case rel =>
            refine ⟨k + 1, by omega, by go_num, ⟨fun j h hj => ?_⟩⟩
            by_cases e : j = k
            · subst e; exact HW.out
            · exact hp.out j h (by omega)
          case measure => simp [intOf]; omega
        · have HW : Hd (isWordB (s[k].toNat : Int) = true) := ⟨hW⟩
          rw [h1] at A
          rw [h2] at C
          rw [h3] at B
          clear hW h1 h2 h3
          go_wp2_with (first | (go_at_call 73; refine (A _).mono ?_; rintro e w' ⟨rfl, hw⟩; obtain rfl := hw.symm) | (go_at_call 85; refine (C _).mono ?_; rintro e w' ⟨rfl, hw⟩; obtain rfl := hw.symm) | (go_at_call 74; refine (B _).mono ?_; rintro e w' ⟨rfl, hw⟩; obtain rfl := hw.symm))
          go_round
          case rel =>
            refine ⟨k + 1, by omega, by go_num, ⟨fun j h hj => ?_⟩⟩
            by_cases e : j = k
            · subst e; exact HW.out
            · exact hp.out j h (by omega)
          case measure => simp [intOf]; omega
        · have HW : Hd (isWordB (s[k].toNat : Int) = true) := ⟨hW⟩
          rw [h1] at A
          rw [h2] at C
          rw [h3] at B
          clear hW h1 h2 h3
          go_wp2_with (first | (go_at_call 73; refine (A _).mono ?_; rintro e w' ⟨rfl, hw⟩; obtain rfl := hw.symm) | (go_at_call 85; refine (C _).mono ?_; rintro e w' ⟨rfl, hw⟩; obtain rfl := hw.symm) | (go_at_call 74; refine (B _).mono ?_; rintro e w' ⟨rfl, hw⟩; obtain rfl := hw.symm))
          go_round
          case rel =>
            refine ⟨k + 1, by omega, by go_num, ⟨fun j h hj => ?_⟩⟩
            by_cases e : j = k
            · subst e; exact HW.out
            · exact hp.out j h (by omega)
          case measure => simp [intOf]; omega
        · have HW : Hd (isWordB (s[k].toNat : Int) = true) := ⟨hW⟩
          rw [h1] at A
          rw [h2] at C
          rw [h3] at B
          clear hW h1 h2 h3
          go_wp2_with (first | (go_at_call 73; refine (A _).mono ?_; rintro e w' ⟨rfl, hw⟩; obtain rfl := hw.symm) | (go_at_call 85; refine (C _).mono ?_; rintro e w' ⟨rfl, hw⟩; obtain rfl := hw.symm) | (go_at_call 74; refine (B _).mono ?_; rintro e w' ⟨rfl, hw⟩; obtain rfl := hw.symm))
          go_round
          case rel =>
            refine ⟨k + 1, by omega, by go_num, ⟨fun j h hj => ?_⟩⟩
            by_cases e : j = k
            · subst e; exact HW.out
            · exact hp.out j h (by omega)
          case measure => simp [intOf]; omega
    · obtain rfl : k = s.size := by omega
      have R : Hd (isWord s = (decide (s.size ≤ 64) && (!decide (s.size = 0) && !(s.toList == [45])))) := ⟨RT.out fun j h => hp.out j h h⟩
      clear RF RT hp
      by_cases z1 : s.size = 0
      · have d1 : decide (s.size = 0) = true := by simpa using z1
        go_wp2_with fail
        go_ret
        exact ⟨by rw [R.out, d1]; simp, rfl⟩
      · have d1 : decide (s.size = 0) = false := by simpa using z1
        have z1' : 1 ≤ s.size := by omega
        by_cases z2 : s.size ≤ 64
        · have d2 : decide (s.size ≤ 64) = true := by simpa using z2
          go_wp2_with fail
          go_ret
          exact ⟨by rw [R.out, d1, d2]; rfl, rfl⟩
        · have d2 : decide (s.size ≤ 64) = false := by simpa using z2
          go_wp2_with fail
          go_ret
          exact ⟨by rw [R.out, d2]; rfl, rfl⟩


end Go.Proofs.YtfollcabppkihaaDoor
