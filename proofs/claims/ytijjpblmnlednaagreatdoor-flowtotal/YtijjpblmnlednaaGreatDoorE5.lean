/-
  Numbers and their digits.
-/
import Derived.Test.YtijjpblmnlednaaGreatDoorE2
import Derived.Test.YtijjpblmnlednaaGreatDoorE4
import Derived.Lib.ItoaNum
namespace Go.Proofs.YtijjpblmnlednaaGreatDoor
open Go.RowKit Go.Lib
theorem valL_snoc (l : List UInt8) (b : UInt8) : valL (l ++ [b]) = valL l * 10 + (b.toNat - 48) := by
  unfold valL
  rw [List.foldl_append]
  rfl
theorem dec_small {n : Nat} (h : n < 10) : decDigits n = [UInt8.ofNat (48 + n)] := by rw [decDigits, dif_pos h]
theorem dec_big {n : Nat} (h : ¬ n < 10) : decDigits n = decDigits (n / 10) ++ [UInt8.ofNat (48 + n % 10)] := by rw [decDigits, dif_neg h]
theorem byte_of {n : Nat} (h : n < 10) : (UInt8.ofNat (48 + n)).toNat = 48 + n := by simp; omega

def IsD (l : List UInt8) : Prop := ∀ b ∈ l, 48 ≤ b.toNat ∧ b.toNat ≤ 57

theorem dec_ind {motive : Nat → Prop} (h1 : ∀ n, n < 10 → motive n) (h2 : ∀ n, ¬ n < 10 → motive (n / 10) → motive n) : ∀ n, motive n := by
  intro n
  induction n using Nat.strongRecOn with
  | ind n ih =>
    by_cases h : n < 10
    · exact h1 n h
    · exact h2 n h (ih (n / 10) (by omega))

theorem dec_digits : ∀ n, IsD (decDigits n) := by
  apply dec_ind
  · intro n h b hb
    rw [dec_small h] at hb
    have : b = UInt8.ofNat (48 + n) := by simpa using hb
    subst this
    rw [byte_of h]
    omega
  · intro n h ih b hb
    rw [dec_big h] at hb
    rcases List.mem_append.1 hb with hb | hb
    · exact ih b hb
    · have : b = UInt8.ofNat (48 + n % 10) := by simpa using hb
      subst this
      rw [byte_of (Nat.mod_lt _ (by decide))]
      omega
theorem dec_val : ∀ n, valL (decDigits n) = n := by
  apply dec_ind
  · intro n h
    rw [dec_small h]
    show 0 * 10 + ((UInt8.ofNat (48 + n)).toNat - 48) = n
    rw [byte_of h]
    omega
  · intro n h ih
    rw [dec_big h, valL_snoc, ih, byte_of (Nat.mod_lt _ (by decide))]
    omega
theorem dec_pos : ∀ n, 1 ≤ (decDigits n).length := by
  intro n
  by_cases h : n < 10
  · rw [dec_small h]; exact Nat.le_refl 1
  · rw [dec_big h, List.length_append]; simp
theorem dec_len : ∀ n k, 1 ≤ k → n < 10 ^ k → (decDigits n).length ≤ k := by
  apply dec_ind (motive := fun n => ∀ k, 1 ≤ k → n < 10 ^ k → (decDigits n).length ≤ k)
  · intro n h k hk _
    rw [dec_small h]
    simpa using hk
  · intro n h ih k hk hn
    rw [dec_big h, List.length_append]
    have h2 : 2 ≤ k := by
      rcases (by omega : k = 1 ∨ 2 ≤ k) with rfl | h2
      · omega
      · exact h2
    obtain ⟨j, rfl⟩ : ∃ j, k = j + 1 := ⟨k - 1, by omega⟩
    have := ih j (by omega) (by rw [Nat.pow_succ] at hn; omega)
    simp
    omega
theorem dec_head : ∀ n, 1 ≤ n → (decDigits n).head? ≠ some 48 := by
  apply dec_ind (motive := fun n => 1 ≤ n → (decDigits n).head? ≠ some 48)
  · intro n h h1
    rw [dec_small h]
    intro e
    have e2 : UInt8.ofNat (48 + n) = 48 := by simpa using e
    have := congrArg UInt8.toNat e2
    rw [byte_of h] at this
    have h48 : (48 : UInt8).toNat = 48 := rfl
    omega
  · intro n h ih _
    rw [dec_big h]
    have := ih (by omega)
    cases hc : decDigits (n / 10) with
    | nil => have := dec_pos (n / 10); rw [hc] at this; simp at this
    | cons x t => rw [hc] at this; exact this

theorem snoc_ind {motive : List UInt8 → Prop} (h1 : motive []) (h2 : ∀ l b, motive l → motive (l ++ [b])) : ∀ l, motive l := by
  intro l
  have : ∀ l : List UInt8, motive l.reverse := by
    intro l
    induction l with
    | nil => exact h1
    | cons b l ih => rw [List.reverse_cons]; exact h2 _ b ih
  have h := this l.reverse
  rwa [List.reverse_reverse] at h

theorem val_pos : ∀ l : List UInt8, IsD l → l ≠ [] → l.head? ≠ some 48 → 1 ≤ valL l := by
  apply snoc_ind (motive := fun l => IsD l → l ≠ [] → l.head? ≠ some 48 → 1 ≤ valL l)
  · intro _ h; exact absurd rfl h
  · intro l b ih hd _ hh
    rw [valL_snoc]
    have hb := hd b (by simp)
    cases l with
    | nil =>
      have hne : b.toNat ≠ 48 := fun e => hh (by rw [List.nil_append, List.head?_cons]; congr 1; exact UInt8.toNat_inj.1 e)
      omega
    | cons x t =>
      have := ih (fun y hy => hd y (List.mem_append_left _ hy)) (by simp) (by simpa using hh)
      omega

/-- Digits without a nought ahead of others are the digits of their number. -/
theorem dec_of : ∀ l : List UInt8, IsD l → l ≠ [] → (1 < l.length → l.head? ≠ some 48) → decDigits (valL l) = l := by
  apply snoc_ind (motive := fun l => IsD l → l ≠ [] → (1 < l.length → l.head? ≠ some 48) → decDigits (valL l) = l)
  · intro _ h; exact absurd rfl h
  · intro l b ih hd _ hh
    have hb := hd b (by simp)
    rw [valL_snoc]
    have hbb : UInt8.ofNat (48 + (b.toNat - 48)) = b := by
      rw [show 48 + (b.toNat - 48) = b.toNat by omega, UInt8.ofNat_toNat]
    cases hl : l with
    | nil =>
      show decDigits (0 * 10 + (b.toNat - 48)) = [b]
      rw [dec_small (by omega), Nat.zero_mul, Nat.zero_add, hbb]
    | cons x t =>
      have hd' : IsD l := fun y hy => hd y (List.mem_append_left _ hy)
      have hne : l ≠ [] := by rw [hl]; simp
      have hh' : l.head? ≠ some 48 := by
        have := hh (by rw [hl]; simp)
        rw [hl] at this ⊢
        simpa using this
      have hp := val_pos l hd' hne hh'
      have hih := ih hd' hne (fun _ => hh')
      rw [← hl, dec_big (by omega), show (valL l * 10 + (b.toNat - 48)) / 10 = valL l by omega, show (valL l * 10 + (b.toNat - 48)) % 10 = b.toNat - 48 by omega, hih, hbb]

/-! ### sixteen -/
def digB (n : Int) : ByteArray := mk (decDigits (max n 0).toNat)

theorem isNum_list (l : List UInt8) (hd : IsD l) (h9 : l.length ≤ 9) (h1 : l ≠ []) (hh : 1 < l.length → l.head? ≠ some 48) : isNum (mk l) = true := by
  have hsz : (mk l).size = l.length := by rw [← size_list, mk_list]
  have hpos : 1 ≤ l.length := by cases l with | nil => exact absurd rfl h1 | cons _ _ => simp
  have hA : allB isDigit (mk l) = true := by
    unfold allB
    rw [mk_list, List.all_eq_true]
    intro b hb
    have := hd b hb
    unfold isDigit
    simp
    omega
  have e1 : decide (9 < (mk l).size) = false := by rw [hsz]; simp; omega
  have e2 : decide ((mk l).size = 0) = false := by rw [hsz]; simp; exact h1
  unfold isNum
  rw [e1, hA, e2]
  by_cases h : 1 < (mk l).size
  · rw [dif_pos h]
    have hne : ((mk l)[0]'(by omega)) ≠ 48 := fun e => hh (by rw [← hsz]; exact h) (by
      have := byte_at (mk l) 0 (by omega)
      rw [mk_list, e] at this
      rw [← this, List.head?_eq_getElem?])
    have : (((mk l)[0].toNat : Int) == 48) = false := by
      cases hb : (((mk l)[0].toNat : Int) == 48) with
      | false => rfl
      | true => exact absurd (UInt8.toNat_inj.1 (by have := eq_of_beq hb; have h48 : (48 : UInt8).toNat = 48 := rfl; omega)) hne
    exact (congrArg (fun b => !(false || (!(true && !false) || b))) this).trans rfl
  · rw [dif_neg h]
    rfl
theorem isNum_digits (n : Nat) (h : n ≤ 999999999) : isNum (mk (decDigits n)) = true := by
  refine isNum_list _ (dec_digits n) (dec_len n 9 (by decide) (by omega)) (fun e => by have := dec_pos n; rw [e] at this; simp at this) (fun hl => ?_)
  refine dec_head n ?_
  rcases Nat.eq_zero_or_pos n with rfl | hp
  · rw [dec_small (by decide)] at hl; simp at hl
  · exact hp

theorem num_digits (n : Nat) (h : n ≤ 999999999) (least most : Int) : numIn (digB n) least most = (decide (least ≤ (n : Int)) && decide ((n : Int) ≤ most)) ∧ numOf (digB n) least most = if (decide (least ≤ (n : Int)) && decide ((n : Int) ≤ most)) then (n : Int) else 0 := by
  have e : digB n = mk (decDigits n) := by unfold digB; congr 2; omega
  rw [e]
  unfold numOf numIn
  rw [isNum_digits n h, mk_list, dec_val, Bool.true_and]
  exact ⟨rfl, rfl⟩

theorem digB_size (n : Int) : (digB n).size = (decDigits (max n 0).toNat).length := by rw [← size_list]; unfold digB; rw [mk_list]

theorem num_iff (s : ByteArray) (h9 : s.size ≤ 9) (hd : allB isDigit s = true) : isNum s = true ↔ digB (valL s.data.toList : Nat) = s := by
  have hD : IsD s.data.toList := fun b hb => by
    unfold allB at hd
    have := List.all_eq_true.1 hd b hb
    unfold isDigit at this
    simp at this
    omega
  have e : digB (valL s.data.toList : Nat) = mk (decDigits (valL s.data.toList)) := by unfold digB; congr 2; omega
  rw [e]
  constructor
  · intro h
    obtain ⟨_, _, h1, h0⟩ := isNum_parts h
    have hne : s.data.toList ≠ [] := fun h => by rw [← size_list, h] at h1; simp at h1
    rw [dec_of s.data.toList hD hne (fun hl hh => by
      rw [size_list] at hl
      have := h0 hl
      have e2 := byte_at s 0 (by omega)
      rw [List.head?_eq_getElem?] at hh
      rw [hh] at e2
      rw [← Option.some.inj e2] at this
      exact absurd this (by decide)), mk_of]
  · intro h
    have hv : valL s.data.toList ≤ 999999999 := by
      have := valTo_lt s hd s.size (Nat.le_refl _)
      rw [valTo_all] at this
      have h2 : 10 ^ s.size ≤ 10 ^ 9 := Nat.pow_le_pow_right (by decide) h9
      omega
    have := isNum_digits _ hv
    rwa [h] at this
end Go.Proofs.YtijjpblmnlednaaGreatDoor
