/-
  What 'WordsDigits' of the statements answers: true, for all numbers. Condition: the library's table of powers lies in memory.
-/
import Derived.Test.YtaedgkaldafbbaaDoorWalkF
import Derived.Test.YtaedgkaldafbbaaDoorAwake
namespace Go.Proofs.YtaedgkaldafbbaaDoor
open Go.RowKit Go.Lib

theorem word_nat {x : Int} (h : (Lit.int .u64 x).wf = true) : ∃ n : Nat, x = n ∧ n < 18446744073709551616 := by
  simp [Lit.wf, IntKind.min, IntKind.max, IntKind.bits, IntKind.signed] at h
  exact ⟨x.toNat, by omega, by omega⟩
theorem wf_i {x : Int} (h : (Lit.int .i64 x).wf = true) : -9223372036854775808 ≤ x ∧ x ≤ 9223372036854775807 := by
  simp [Lit.wf, IntKind.min, IntKind.max, IntKind.bits, IntKind.signed] at h; omega

theorem isNum_list (l : List UInt8) (hd : IsD l) (h9 : l.length ≤ 9) (h1 : l ≠ []) (hh : 1 < l.length → l.head? ≠ some 48) : isNum (mk l) = true := by
  have hsz : (mk l).size = l.length := by rw [← size_list, mk_list]
  have hpos : 1 ≤ l.length := by cases l with | nil => exact absurd rfl h1 | cons _ _ => simp
  have hA : allB isDigit (mk l) = true := by
    unfold allB
    rw [mk_list, List.all_eq_true]
    intro b hb
    have := hd b hb
    unfold isDigit
    simp
    omega
  have e1 : decide (9 < (mk l).size) = false := by rw [hsz]; simp; omega
  have e2 : decide ((mk l).size = 0) = false := by rw [hsz]; simp; exact h1
  unfold isNum
  rw [e1, hA, e2]
  by_cases h : 1 < (mk l).size
  · rw [dif_pos h]
    have hne : ((mk l)[0]'(by omega)) ≠ 48 := fun e => hh (by rw [← hsz]; exact h) (by
      have := byte_at (mk l) 0 (by omega)
      rw [mk_list, e] at this
      rw [← this, List.head?_eq_getElem?])
    have : (((mk l)[0].toNat : Int) == 48) = false := by
      cases hb : (((mk l)[0].toNat : Int) == 48) with
      | false => rfl
      | true => exact absurd (UInt8.toNat_inj.1 (by have := eq_of_beq hb; have h48 : (48 : UInt8).toNat = 48 := rfl; omega)) hne
    exact (congrArg (fun b => !(false || (!(true && !false) || b))) this).trans rfl
  · rw [dif_neg h]
    rfl
theorem isNum_digits (n : Nat) (h : n ≤ 999999999) : isNum (mk (decDigits n)) = true := by
  refine isNum_list _ (dec_digits n) (dec_len n 9 (by decide) (by omega)) (fun e => by have := dec_pos n; rw [e] at this; simp at this) (fun hl => ?_)
  refine dec_head n ?_
  rcases Nat.eq_zero_or_pos n with rfl | hp
  · rw [dec_small (by decide)] at hl; simp at hl
  · exact hp

theorem num_digits (n : Nat) (h : n ≤ 999999999) (least most : Int) : numIn (digB n) least most = (decide (least ≤ (n : Int)) && decide ((n : Int) ≤ most)) ∧ numOf (digB n) least most = if (decide (least ≤ (n : Int)) && decide ((n : Int) ≤ most)) then (n : Int) else 0 := by
  have e : digB n = mk (decDigits n) := by unfold digB; congr 2; omega
  rw [e]
  unfold numOf numIn
  rw [isNum_digits n h, mk_list, dec_val, Bool.true_and]
  exact ⟨rfl, rfl⟩

theorem digB_size (n : Int) : (digB n).size = (decDigits (max n 0).toNat).length := by rw [← size_list]; unfold digB; rw [mk_list]

theorem digits_all (n least most h : Int) (w : World) (hn : (Lit.int .i64 n).wf = true) (hh : (Lit.int .u64 h).wf = true) (hT : Tab w) :
    Calls Tryd.prog 7 #[.int .i64 n, .int .i64 least, .int .i64 most, .int .u64 h] w fun e w' => e = .returned (.bool true) ∧ Below w.heap.size w w' := by
  obtain ⟨H, rfl, hH⟩ := word_nat hh
  obtain ⟨n0, n1⟩ := wf_i hn
  obtain ⟨u1, u2⟩ := hex_back H hH
  have CH := hex_ok H hH
  have CU := unhex_ok (hexB H)
  rw [u1, u2] at CU
  clear u1 u2 hh hn
  generalize hexB H = x at *
  by_cases c1 : n < 0
  · go_enter Tryd.func7, Tryd.ntmps7
    go_wp2_with (first
      | (go_at_call 9; refine (awake_any _).mono ?_; rintro e w1 ⟨rfl, hb1⟩)
      | (go_at_call 21; refine (CH _).mono ?_; rintro e w2 ⟨rfl, hb2⟩)
      | (go_at_call 17; refine (CU _).mono ?_; rintro e w' ⟨rfl, hw⟩; obtain rfl := hw.symm))
    go_ret
    exact ⟨rfl, hb1.trans (hb2.mono hb1.size)⟩
  by_cases c2 : 999999999 < n
  · go_enter Tryd.func7, Tryd.ntmps7
    go_wp2_with (first
      | (go_at_call 9; refine (awake_any _).mono ?_; rintro e w1 ⟨rfl, hb1⟩)
      | (go_at_call 21; refine (CH _).mono ?_; rintro e w2 ⟨rfl, hb2⟩)
      | (go_at_call 17; refine (CU _).mono ?_; rintro e w' ⟨rfl, hw⟩; obtain rfl := hw.symm))
    go_ret
    exact ⟨rfl, hb1.trans (hb2.mono hb1.size)⟩
  obtain ⟨N, rfl⟩ : ∃ N : Nat, n = N := ⟨n.toNat, by omega⟩
  have CD := fun w => digits_ok (N : Int) n0 n1 w
  have sz : (digB (N : Int)).size ≤ 9223372036854775807 := by
    rw [digB_size]
    have := dec_len (max (N : Int) 0).toNat 9 (by decide) (by omega)
    omega
  have CN := number_ok (digB (N : Int)) least most sz
  obtain ⟨m1, m2⟩ := num_digits N (by omega) least most
  rw [m1, m2] at CN
  clear m1 m2 sz
  generalize digB (N : Int) = y at *
  go_enter Tryd.func7, Tryd.ntmps7
  go_wp2_with (first
    | (go_at_call 9; refine (awake_any _).mono ?_; rintro e w1 ⟨rfl, hb1⟩)
    | (go_at_call 21; refine (CH _).mono ?_; rintro e w2 ⟨rfl, hb2⟩)
    | (go_at_call 17; refine (CU _).mono ?_; rintro e w' ⟨rfl, hw⟩; obtain rfl := hw.symm))
  have b2 : Below w.heap.size w w2 := hb1.trans (hb2.mono hb1.size)
  have hT2 := hT.stays b2
  have B2 : Hd (Below w.heap.size w w2) := ⟨b2⟩
  clear hb1 hb2 b2 CH CU
  go_at_call 19
  refine (CD _ hT2).mono ?_
  rintro e w3 ⟨rfl, hb3⟩
  have B3 : Hd (Below w.heap.size w w3) := ⟨B2.out.trans (hb3.mono B2.out.size)⟩
  clear hT hT2 hb3 CD
  by_cases d1 : least ≤ (N : Int)
  · have e1 : decide (least ≤ (N : Int)) = true := by simpa using d1
    by_cases d2 : (N : Int) ≤ most
    · have e2 : decide ((N : Int) ≤ most) = true := by simpa using d2
      rw [e1, e2, Bool.and_self, if_pos rfl] at CN
      go_wp2_with (go_at_call 15; refine (CN _).mono ?_; rintro e w' ⟨rfl, hw⟩; obtain rfl := hw.symm)
      go_ret
      exact ⟨rfl, B3.out⟩
    · have e2 : decide ((N : Int) ≤ most) = false := by simpa using d2
      rw [e1, e2, Bool.and_false, if_neg (by decide)] at CN
      go_wp2_with (go_at_call 15; refine (CN _).mono ?_; rintro e w' ⟨rfl, hw⟩; obtain rfl := hw.symm)
      go_ret
      exact ⟨rfl, B3.out⟩
  · have e1 : decide (least ≤ (N : Int)) = false := by simpa using d1
    rw [e1, Bool.false_and, if_neg (by decide)] at CN
    go_wp2_with (go_at_call 15; refine (CN _).mono ?_; rintro e w' ⟨rfl, hw⟩; obtain rfl := hw.symm)
    go_ret
    exact ⟨rfl, B3.out⟩

end Go.Proofs.YtaedgkaldafbbaaDoor
