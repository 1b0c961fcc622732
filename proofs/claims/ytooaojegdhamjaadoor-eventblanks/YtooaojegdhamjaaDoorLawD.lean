/-
  What 'WordsDigits' of the statements answers: true, for all numbers. Condition: the library's table of powers lies in memory.
-/
import Derived.Test.YtooaojegdhamjaaDoorWalkF
import Derived.Test.YtooaojegdhamjaaDoorAwake
namespace Go.Proofs.YtooaojegdhamjaaDoor
open Go.RowKit Go.Lib

theorem word_nat {x : Int} (h : (Lit.int .u64 x).wf = true) : ∃ n : Nat, x = n ∧ n < 18446744073709551616 := by
  simp [Lit.wf, IntKind.min, IntKind.max, IntKind.bits, IntKind.signed] at h
  exact ⟨x.toNat, by omega, by omega⟩
theorem wf_i {x : Int} (h : (Lit.int .i64 x).wf = true) : -9223372036854775808 ≤ x ∧ x ≤ 9223372036854775807 := by
  simp [Lit.wf, IntKind.min, IntKind.max, IntKind.bits, IntKind.signed] at h; omega

theorem isNum_list (l : List UInt8) (hd : IsD l) (h9 : l.length ≤ 9) (h1 : l ≠ []) (hh : 1 < l.length → l.head? ≠ some 48) : isNum (mk l) = true := by
  have hsz : (mk l).size = l.length := by rw [← size_list, mk_list]
  have hpos : 1 ≤ l.length := by cases l with | nil => exact absurd rfl h1 | cons _ _ => simp
  have hA : allB isDigit (mk l) = true := by
    unfold allB
    rw [mk_list, List.all_eq_true]
    intro b hb
    have := hd b hb
    unfold isDigit
    simp
    omega
  have e1 : decide (9 < (mk l).size) = false := by rw [hsz]; simp; omega
  have e2 : decide ((mk l).size = 0) = false := by rw [hsz]; simp; exact h1
  unfold isNum
  rw [e1, hA, e2]
  by_cases h : 1 < (mk l).size
  · rw [dif_pos h]
    have hne : ((mk l)[0]'(by omega)) ≠ 48 := fun e => hh (by rw [← hsz]; exact h) (by
      have := byte_at (mk l) 0 (by omega)
      rw [mk_list, e] at this
      rw [← this, List.head?_eq_getElem?])
    have : (((mk l)[0].toNat : Int) == 48) = false := by
      cases hb : (((mk l)[0].toNat : Int) == 48) with
      | false => rfl
      | true => exact absurd (UInt8.toNat_inj.1 (by have := eq_of_beq hb; have h48 : (48 : UInt8).toNat = 48 := rfl; omega)) hne
    exact (congrArg (fun b => !(false || (!(true && !false) || b))) this).trans rfl
  · rw [dif_neg h]
    rfl
theorem isNum_digits (n : Nat) (h : n ≤ 999999999) : isNum (mk (decDigits n)) = true := by
  refine isNum_list _ (dec_digits n) (dec_len n 9 (by decide) (by omega)) (fun e => by have := dec_pos n; rw [e] at this; simp at this) (fun hl => ?_)
  refine dec_head n ?_
  rcases Nat.eq_zero_or_pos n with rfl | hp
  · rw [dec_small (by decide)] at hl; simp at hl
  · exact hp

theorem num_digits (n : Nat) (h : n ≤ 999999999) (least most : Int) : numIn (digB n) least most = (decide (least ≤ (n : Int)) && decide ((n : Int) ≤ most)) ∧ numOf (digB n) least most = if (decide (least ≤ (n : Int)) && decide ((n : Int) ≤ most)) then (n : Int) else 0 := by
  have e : digB n = mk (decDigits n) := by unfold digB; congr 2; omega
  rw [e]
  unfold numOf numIn
  rw [isNum_digits n h, mk_list, dec_val, Bool.true_and]
  exact ⟨rfl, rfl⟩

theorem digB_size (n : Int) : (digB n).size = (decDigits (max n 0).toNat).length := by rw [← size_list]; unfold digB; rw [mk_list]

end Go.Proofs.YtooaojegdhamjaaDoor
