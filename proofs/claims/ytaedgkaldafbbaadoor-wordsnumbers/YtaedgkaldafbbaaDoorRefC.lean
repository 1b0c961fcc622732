/-
  What 'Hex', 'Unhex', 'Number' of the reference answer. No condition.
-/
import Derived.Test.YtaedgkaldafbbaaDoorRefB
namespace Go.Proofs.YtaedgkaldafbbaaDoor
open Go.RowKit Go.Lib

theorem hex_cut (h k : Nat) (hk : k < 16) : (hexL h).drop (16 - (k + 1)) = UInt8.ofNat (hexC (h / 16 ^ k % 16)) :: (hexL h).drop (16 - k) := by
  have hl : 16 - (k + 1) < (hexL h).length := by rw [hexL_len]; omega
  have hg : (hexL h)[16 - (k + 1)]? = some (UInt8.ofNat (hexC (h / 16 ^ k % 16))) := by
    unfold hexL
    rw [List.getElem?_map, List.getElem?_range (by omega)]
    show some (UInt8.ofNat (hexAt h (16 - (k + 1)))) = _
    unfold hexAt
    rw [show 15 - (16 - (k + 1)) = k by omega]
  rw [List.getElem?_eq_getElem hl] at hg
  rw [List.drop_eq_getElem_cons hl, show 16 - (k + 1) + 1 = 16 - k by omega, Option.some.inj hg]

theorem back48 (v b : Nat) (hv : v < 1152921504606846976) (h1 : 48 ≤ b) (h2 : b ≤ 57) : IntKind.u64.wrap (IntKind.u64.wrap ((v : Int) * 16 + (b : Int)) - 48) = ((v * 16 + (b - 48) : Nat) : Int) := by
  rw [IntKind.wrap_u64, IntKind.wrap_u64]
  omega
theorem back87 (v b : Nat) (hv : v < 1152921504606846976) (h1 : 97 ≤ b) (h2 : b ≤ 102) : IntKind.u64.wrap (IntKind.u64.wrap ((v : Int) * 16 + (b : Int)) - 87) = ((v * 16 + (b - 87) : Nat) : Int) := by
  rw [IntKind.wrap_u64, IntKind.wrap_u64]
  omega

set_option maxRecDepth 20000 in
theorem rhex_ok (h : Nat) (hh : h < 18446744073709551616) (w : World) :
    Calls Tryd.prog 22 #[.int .u64 h] w fun e w' => e = .returned (.string (hexB h)) ∧ Below w.heap.size w w' := by
  go_enter Tryd.func22, Tryd.ntmps22
  go_wp2_with fail
  go_loopw [0, 3, 4] (fun x s3 i wr => ∃ (k v : Nat) (S : ByteArray), k ≤ 16 ∧ x = .int .u64 v ∧ s3 = .string S ∧ i = .int .i64 k ∧ v < 18446744073709551616 ∧ S.size = k ∧ Hd (v = h / 16 ^ k ∧ S.data.toList = (hexL h).drop (16 - k)) ∧ Below w.heap.size w wr) (fun _ _ i _ => 16 - (intOf i).toNat)
  case atStart => exact ⟨0, h, ⟨#[]⟩, Nat.zero_le _, rfl, rfl, rfl, hh, rfl, ⟨by rw [Nat.pow_zero, Nat.div_one], by rw [List.drop_of_length_le (by rw [hexL_len]; decide)]⟩, Below.refl _ _⟩
  case round =>
    obtain ⟨k, v, S, hk, rfl, rfl, rfl, hv, hS, hI, p3⟩ := hrel
    by_cases hlt : k < 16
    · have e1 : (v : Int).tmod 16 = ((v % 16 : Nat) : Int) := (Int.ofNat_tmod _ _).symm
      have e2 : (v : Int).tdiv 16 = ((v / 16 : Nat) : Int) := (Int.ofNat_tdiv _ _).symm
      have ht : v % 16 < 16 := Nat.mod_lt _ (by decide)
      have hc := hexC_lt ht
      have hu : v / 16 < 18446744073709551616 := by omega
      have hI' : Hd (v / 16 = h / 16 ^ (k + 1) ∧ (mk [UInt8.ofNat (hexC (v % 16))] ++ S).data.toList = (hexL h).drop (16 - (k + 1))) := ⟨by
        rw [hI.out.1, Nat.div_div_eq_div_mul, Nat.pow_succ], by
        rw [hex_cut h k hlt, cat_list, mk_list, hI.out.2, hI.out.1]
        rfl⟩
      have CV := fun z hz => conv_one wr (UInt8.ofNat (hexC (v % 16))) z hz
      have P4 : Hd (∀ z : Int, Below w.heap.size w (wr.alloc (.cells #[.int .u8 z] 5))) := ⟨fun z => p3.alloc p3.size _⟩
      have hx1 : (mk [UInt8.ofNat (hexC (v % 16))]).size = 1 := mk_size1 _
      have hz : (hexC (v % 16) : Int) = ((UInt8.ofNat (hexC (v % 16))).toNat : Int) := by simp; omega
      have hsz : (mk [UInt8.ofNat (hexC (v % 16))] ++ S).size = k + 1 := by rw [cat_size, hx1, hS]; omega
      have HSZ : Hd (_ = _) := ⟨hsz⟩
      clear hI p3 hsz
      by_cases h10 : v % 16 < 10
      · have ez : (hexC (v % 16) : Int) = ((v % 16 : Nat) : Int) + 48 := by unfold hexC; rw [if_pos h10]; omega
        have CV' := CV (((v % 16 : Nat) : Int) + 48) (by rw [← ez]; exact hz)
        clear CV hz ez hc
        generalize mk [UInt8.ofNat (hexC (v % 16))] = x at *
        generalize v % 16 = t at *
        generalize v / 16 = u at *
        go_wp2_with fail
        go_roundw
        case rel => exact ⟨k + 1, u, x ++ S, by omega, rfl, rfl, by go_num, hu, HSZ.out, hI', P4.out _⟩
        case measure => simp [intOf]; omega
      · have ez : (hexC (v % 16) : Int) = ((v % 16 : Nat) : Int) + 87 := by unfold hexC; rw [if_neg h10]; omega
        have CV' := CV (((v % 16 : Nat) : Int) + 87) (by rw [← ez]; exact hz)
        clear CV hz ez hc
        generalize mk [UInt8.ofNat (hexC (v % 16))] = x at *
        generalize v % 16 = t at *
        generalize v / 16 = u at *
        go_wp2_with fail
        go_roundw
        case rel => exact ⟨k + 1, u, x ++ S, by omega, rfl, rfl, by go_num, hu, HSZ.out, hI', P4.out _⟩
        case measure => simp [intOf]; omega
    · obtain rfl : k = 16 := by omega
      have hS' : Hd (hexB h = S) := ⟨list_inj (by unfold hexB; rw [mk_list, hI.out.2]; rfl)⟩
      clear hI
      go_wp2_with fail
      go_ret
      exact ⟨by rw [hS'.out]; rfl, p3⟩

set_option maxRecDepth 20000 in
theorem runhex_ok (s : ByteArray) (w : World) :
    Calls Tryd.prog 18 #[.string s] w fun e w' => e = .returned (.tuple #[.int .u64 (unOf s : Nat), .bool (unOk s)]) ∧ w' = w := by
  by_cases h16 : s.size = 16
  · have RN : Hd ((allB isHexI s = false → unOf s = 0 ∧ unOk s = false) ∧ (allB isHexI s = true → unOf s = uhTo s s.size ∧ unOk s = true)) := ⟨by
      refine ⟨fun h => ?_, fun h => ?_⟩
      · unfold unOf unOk
        rw [h, Bool.and_false]
        exact ⟨rfl, rfl⟩
      · have e : unOk s = true := by unfold unOk; rw [h, h16]; rfl
        refine ⟨?_, e⟩
        unfold unOf
        rw [if_pos e, uhTo_all]⟩
    have HP : Hd (∀ k : Nat, k ≤ 15 → 16 ^ k ≤ 16 ^ 15) := ⟨fun k hk => Nat.pow_le_pow_right (by decide) hk⟩
    go_enter Tryd.func18, Tryd.ntmps18
    go_wp2_with fail
    go_loop [4, 5] (fun x i => ∃ k v : Nat, k ≤ s.size ∧ i = .int .i64 k ∧ x = .int .u64 v ∧ Hd (v = uhTo s k ∧ ∀ j (h : j < s.size), j < k → isHexI (s[j].toNat : Int) = true)) (fun _ i => s.size - (intOf i).toNat)
    case atStart => exact ⟨0, 0, Nat.zero_le _, rfl, rfl, ⟨(uhTo_zero s).symm, fun j _ h => absurd h (Nat.not_lt_zero _)⟩⟩
    case round =>
      obtain ⟨k, v, hk, rfl, rfl, hv⟩ := hrel
      by_cases hlt : k < s.size
      · cases hx : isHexI (s[k].toNat : Int) with
        | false =>
          have hA := allB_no k hlt hx
          have R' : Hd (_ ∧ _) := ⟨RN.out.1 hA⟩
          clear RN hA hv
          unfold isHexI at hx
          have hx' : ¬ ((48 ≤ (s[k].toNat : Int) ∧ (s[k].toNat : Int) ≤ 57) ∨ (97 ≤ (s[k].toNat : Int) ∧ (s[k].toNat : Int) ≤ 102)) := of_decide_eq_false hx
          clear hx
          rcases (by omega : (s[k].toNat : Int) < 48 ∨ (57 < (s[k].toNat : Int) ∧ (s[k].toNat : Int) < 97) ∨ 102 < (s[k].toNat : Int)) with hc | hc | hc
          · clear hx'
            go_wp2_with fail
            go_ret2
            exact ⟨by rw [R'.out.1, R'.out.2]; rfl, rfl⟩
          · clear hx'
            obtain ⟨hc1, hc2⟩ := hc
            go_wp2_with fail
            go_ret2
            exact ⟨by rw [R'.out.1, R'.out.2]; rfl, rfl⟩
          · clear hx'
            go_wp2_with fail
            go_ret2
            exact ⟨by rw [R'.out.1, R'.out.2]; rfl, rfl⟩
        | true =>
          have hb := hexVal_lt hx
          have hvl : v < 16 ^ 15 := by
            rw [hv.out.1]
            exact Nat.lt_of_lt_of_le (uhTo_lt s k hk hv.out.2) (HP.out k (by omega))
          have e15 : (16 : Nat) ^ 15 = 1152921504606846976 := by decide
          rw [e15] at hvl
          have hv' : Hd (v * 16 + hexVal s[k].toNat = uhTo s (k + 1) ∧ ∀ j (h : j < s.size), j < k + 1 → isHexI (s[j].toNat : Int) = true) := ⟨by rw [uhTo_succ s k hlt, ← hv.out.1], fun j h hj => by
            by_cases e : j = k
            · subst e; exact hx
            · exact hv.out.2 j h (by omega)⟩
          have hx' : (48 ≤ (s[k].toNat : Int) ∧ (s[k].toNat : Int) ≤ 57) ∨ (97 ≤ (s[k].toNat : Int) ∧ (s[k].toNat : Int) ≤ 102) := of_decide_eq_true hx
          clear RN hv hx e15
          rcases hx' with hx' | hx'
          · have hd : hexVal s[k].toNat = s[k].toNat - 48 := by unfold hexVal; rw [if_pos (by omega)]
            rw [hd] at hv' hb
            have eb := back48 v s[k].toNat hvl (by omega) (by omega)
            obtain ⟨hc1, hc2⟩ := hx'
            go_wp2_with fail
            go_round
            case rel => exact ⟨k + 1, v * 16 + (s[k].toNat - 48), by omega, by go_num, rfl, hv'⟩
            case measure => simp [intOf]; omega
          · have hd : hexVal s[k].toNat = s[k].toNat - 87 := by unfold hexVal; rw [if_neg (by omega)]
            rw [hd] at hv' hb
            have eb := back87 v s[k].toNat hvl (by omega) (by omega)
            obtain ⟨hc1, hc2⟩ := hx'
            go_wp2_with fail
            go_round
            case rel => exact ⟨k + 1, v * 16 + (s[k].toNat - 87), by omega, by go_num, rfl, hv'⟩
            case measure => simp [intOf]; omega
      · obtain rfl : k = s.size := by omega
        have hA : allB isHexI s = true := (allB_iff _ _).2 fun j h => hv.out.2 j h h
        have R' : Hd (unOf s = v ∧ unOk s = true) := ⟨by rw [hv.out.1]; exact RN.out.2 hA⟩
        clear RN hA hv
        go_wp2
        go_ret2
        exact ⟨by rw [R'.out.1, R'.out.2]; rfl, rfl⟩
  · have e1 : unOk s = false := by unfold unOk; rw [show decide (s.size = 16) = false by simpa using h16]; rfl
    have e2 : unOf s = 0 := by unfold unOf; rw [e1]; rfl
    rw [e1, e2]
    go_enter Tryd.func18, Tryd.ntmps18
    go_wp2_with fail
    go_ret2
    exact ⟨rfl, rfl⟩

/-- Digits of at most nine places: their number has these digits just if they are a number. -/
theorem num_iff (s : ByteArray) (h9 : s.size ≤ 9) (hd : allB isDigit s = true) : isNum s = true ↔ digB (valL s.data.toList : Nat) = s := by
  have hD : IsD s.data.toList := fun b hb => by
    unfold allB at hd
    have := List.all_eq_true.1 hd b hb
    unfold isDigit at this
    simp at this
    omega
  have e : digB (valL s.data.toList : Nat) = mk (decDigits (valL s.data.toList)) := by unfold digB; congr 2; omega
  rw [e]
  constructor
  · intro h
    obtain ⟨_, _, h1, h0⟩ := isNum_parts h
    have hne : s.data.toList ≠ [] := fun h => by rw [← size_list, h] at h1; simp at h1
    rw [dec_of s.data.toList hD hne (fun hl hh => by
      rw [size_list] at hl
      have := h0 hl
      have e2 := byte_at s 0 (by omega)
      rw [List.head?_eq_getElem?] at hh
      rw [hh] at e2
      rw [← Option.some.inj e2] at this
      exact absurd this (by decide)), mk_of]
  · intro h
    have hv : valL s.data.toList ≤ 999999999 := by
      have := valTo_lt s hd s.size (Nat.le_refl _)
      rw [valTo_all] at this
      have h2 : 10 ^ s.size ≤ 10 ^ 9 := Nat.pow_le_pow_right (by decide) h9
      omega
    have := isNum_digits _ hv
    rwa [h] at this

end Go.Proofs.YtaedgkaldafbbaaDoor
