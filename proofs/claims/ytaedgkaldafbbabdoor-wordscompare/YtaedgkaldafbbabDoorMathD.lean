/-
  Numbers in digits, and back; numbers in sixteen digits of four bits, and back. No condition.
-/
import Derived.Test.YtaedgkaldafbbabDoorWalkC
import Derived.Test.YtaedgkaldafbbabDoorWalkE
import Derived.Lib.ItoaNum
namespace Go.Proofs.YtaedgkaldafbbabDoor
open Go.Lib

theorem valL_snoc (l : List UInt8) (b : UInt8) : valL (l ++ [b]) = valL l * 10 + (b.toNat - 48) := by
  unfold valL
  rw [List.foldl_append]
  rfl
theorem dec_small {n : Nat} (h : n < 10) : decDigits n = [UInt8.ofNat (48 + n)] := by rw [decDigits, dif_pos h]
theorem dec_big {n : Nat} (h : ¬ n < 10) : decDigits n = decDigits (n / 10) ++ [UInt8.ofNat (48 + n % 10)] := by rw [decDigits, dif_neg h]
theorem byte_of {n : Nat} (h : n < 10) : (UInt8.ofNat (48 + n)).toNat = 48 + n := by simp; omega

def IsD (l : List UInt8) : Prop := ∀ b ∈ l, 48 ≤ b.toNat ∧ b.toNat ≤ 57

theorem dec_ind {motive : Nat → Prop} (h1 : ∀ n, n < 10 → motive n) (h2 : ∀ n, ¬ n < 10 → motive (n / 10) → motive n) : ∀ n, motive n := by
  intro n
  induction n using Nat.strongRecOn with
  | ind n ih =>
    by_cases h : n < 10
    · exact h1 n h
    · exact h2 n h (ih (n / 10) (by omega))

theorem dec_digits : ∀ n, IsD (decDigits n) := by
  apply dec_ind
  · intro n h b hb
    rw [dec_small h] at hb
    have : b = UInt8.ofNat (48 + n) := by simpa using hb
    subst this
    rw [byte_of h]
    omega
  · intro n h ih b hb
    rw [dec_big h] at hb
    rcases List.mem_append.1 hb with hb | hb
    · exact ih b hb
    · have : b = UInt8.ofNat (48 + n % 10) := by simpa using hb
      subst this
      rw [byte_of (Nat.mod_lt _ (by decide))]
      omega
theorem dec_val : ∀ n, valL (decDigits n) = n := by
  apply dec_ind
  · intro n h
    rw [dec_small h]
    show 0 * 10 + ((UInt8.ofNat (48 + n)).toNat - 48) = n
    rw [byte_of h]
    omega
  · intro n h ih
    rw [dec_big h, valL_snoc, ih, byte_of (Nat.mod_lt _ (by decide))]
    omega
theorem dec_pos : ∀ n, 1 ≤ (decDigits n).length := by
  intro n
  by_cases h : n < 10
  · rw [dec_small h]; exact Nat.le_refl 1
  · rw [dec_big h, List.length_append]; simp
theorem dec_len : ∀ n k, 1 ≤ k → n < 10 ^ k → (decDigits n).length ≤ k := by
  apply dec_ind (motive := fun n => ∀ k, 1 ≤ k → n < 10 ^ k → (decDigits n).length ≤ k)
  · intro n h k hk _
    rw [dec_small h]
    simpa using hk
  · intro n h ih k hk hn
    rw [dec_big h, List.length_append]
    have h2 : 2 ≤ k := by
      rcases (by omega : k = 1 ∨ 2 ≤ k) with rfl | h2
      · omega
      · exact h2
    obtain ⟨j, rfl⟩ : ∃ j, k = j + 1 := ⟨k - 1, by omega⟩
    have := ih j (by omega) (by rw [Nat.pow_succ] at hn; omega)
    simp
    omega
theorem dec_head : ∀ n, 1 ≤ n → (decDigits n).head? ≠ some 48 := by
  apply dec_ind (motive := fun n => 1 ≤ n → (decDigits n).head? ≠ some 48)
  · intro n h h1
    rw [dec_small h]
    intro e
    have e2 : UInt8.ofNat (48 + n) = 48 := by simpa using e
    have := congrArg UInt8.toNat e2
    rw [byte_of h] at this
    have h48 : (48 : UInt8).toNat = 48 := rfl
    omega
  · intro n h ih _
    rw [dec_big h]
    have := ih (by omega)
    cases hc : decDigits (n / 10) with
    | nil => have := dec_pos (n / 10); rw [hc] at this; simp at this
    | cons x t => rw [hc] at this; exact this

theorem snoc_ind {motive : List UInt8 → Prop} (h1 : motive []) (h2 : ∀ l b, motive l → motive (l ++ [b])) : ∀ l, motive l := by
  intro l
  have : ∀ l : List UInt8, motive l.reverse := by
    intro l
    induction l with
    | nil => exact h1
    | cons b l ih => rw [List.reverse_cons]; exact h2 _ b ih
  have h := this l.reverse
  rwa [List.reverse_reverse] at h

theorem val_pos : ∀ l : List UInt8, IsD l → l ≠ [] → l.head? ≠ some 48 → 1 ≤ valL l := by
  apply snoc_ind (motive := fun l => IsD l → l ≠ [] → l.head? ≠ some 48 → 1 ≤ valL l)
  · intro _ h; exact absurd rfl h
  · intro l b ih hd _ hh
    rw [valL_snoc]
    have hb := hd b (by simp)
    cases l with
    | nil =>
      have hne : b.toNat ≠ 48 := fun e => hh (by rw [List.nil_append, List.head?_cons]; congr 1; exact UInt8.toNat_inj.1 e)
      omega
    | cons x t =>
      have := ih (fun y hy => hd y (List.mem_append_left _ hy)) (by simp) (by simpa using hh)
      omega

/-- Digits without a nought ahead of others are the digits of their number. -/
theorem dec_of : ∀ l : List UInt8, IsD l → l ≠ [] → (1 < l.length → l.head? ≠ some 48) → decDigits (valL l) = l := by
  apply snoc_ind (motive := fun l => IsD l → l ≠ [] → (1 < l.length → l.head? ≠ some 48) → decDigits (valL l) = l)
  · intro _ h; exact absurd rfl h
  · intro l b ih hd _ hh
    have hb := hd b (by simp)
    rw [valL_snoc]
    have hbb : UInt8.ofNat (48 + (b.toNat - 48)) = b := by
      rw [show 48 + (b.toNat - 48) = b.toNat by omega, UInt8.ofNat_toNat]
    cases hl : l with
    | nil =>
      show decDigits (0 * 10 + (b.toNat - 48)) = [b]
      rw [dec_small (by omega), Nat.zero_mul, Nat.zero_add, hbb]
    | cons x t =>
      have hd' : IsD l := fun y hy => hd y (List.mem_append_left _ hy)
      have hne : l ≠ [] := by rw [hl]; simp
      have hh' : l.head? ≠ some 48 := by
        have := hh (by rw [hl]; simp)
        rw [hl] at this ⊢
        simpa using this
      have hp := val_pos l hd' hne hh'
      have hih := ih hd' hne (fun _ => hh')
      rw [← hl, dec_big (by omega), show (valL l * 10 + (b.toNat - 48)) / 10 = valL l by omega, show (valL l * 10 + (b.toNat - 48)) % 10 = b.toNat - 48 by omega, hih, hbb]

/-! ### sixteen -/
def isHexI (n : Int) : Bool := decide ((48 ≤ n ∧ n ≤ 57) ∨ (97 ≤ n ∧ n ≤ 102))
def hexVal (n : Nat) : Nat := if n ≤ 57 then n - 48 else n - 87
def uhL (l : List UInt8) : Nat := l.foldl (fun n b => n * 16 + hexVal b.toNat) 0
def uhTo (s : ByteArray) (k : Nat) : Nat := uhL (s.data.toList.take k)
theorem uhTo_zero (s : ByteArray) : uhTo s 0 = 0 := by unfold uhTo; rw [List.take_zero]; rfl
theorem uhTo_succ (s : ByteArray) (k : Nat) (h : k < s.size) : uhTo s (k + 1) = uhTo s k * 16 + hexVal s[k].toNat := by
  unfold uhTo uhL
  rw [List.take_add_one, byte_at s k h, Option.toList_some, List.foldl_append]
  rfl
theorem uhTo_all (s : ByteArray) : uhTo s s.size = uhL s.data.toList := by
  unfold uhTo
  rw [List.take_of_length_le (by rw [Array.length_toList]; exact Nat.le_refl _)]
theorem hexVal_lt {n : Nat} (h : isHexI (n : Int) = true) : hexVal n < 16 := by
  unfold isHexI at h
  simp at h
  unfold hexVal
  split <;> omega
theorem uhTo_lt (s : ByteArray) : ∀ k, k ≤ s.size → (∀ j (h : j < s.size), j < k → isHexI (s[j].toNat : Int) = true) → uhTo s k < 16 ^ k
  | 0, _, _ => by rw [uhTo_zero]; decide
  | k + 1, h, hd => by
    have ih := uhTo_lt s k (by omega) (fun j hj hk => hd j hj (by omega))
    have hb := hexVal_lt (hd k (by omega) (by omega))
    rw [uhTo_succ s k (by omega), Nat.pow_succ]
    omega
def unOk (s : ByteArray) : Bool := decide (s.size = 16) && allB isHexI s
def unOf (s : ByteArray) : Nat := if unOk s then uhL s.data.toList else 0

theorem idx_hex (b : UInt8) : indexByte [48, 49, 50, 51, 52, 53, 54, 55, 56, 57, 97, 98, 99, 100, 101, 102] b = if isHexI (b.toNat : Int) then (hexVal b.toNat : Int) else -1 := by
  have h : ∀ n, n < 256 → indexByte [48, 49, 50, 51, 52, 53, 54, 55, 56, 57, 97, 98, 99, 100, 101, 102] (UInt8.ofNat n) = if isHexI (n : Int) then (hexVal n : Int) else -1 := by decide +kernel
  have := h b.toNat b.toNat_lt
  rwa [UInt8.ofNat_toNat] at this

theorem hexC_back {d : Nat} (h : d < 16) : hexVal (UInt8.ofNat (hexC d)).toNat = d ∧ isHexI ((UInt8.ofNat (hexC d)).toNat : Int) = true := by
  have : ∀ d, d < 16 → hexVal (UInt8.ofNat (hexC d)).toNat = d ∧ isHexI ((UInt8.ofNat (hexC d)).toNat : Int) = true := by decide
  exact this d h

theorem hexL_len (h : Nat) : (hexL h).length = 16 := by simp [hexL]
theorem uh_take (h : Nat) : ∀ k, k ≤ 16 → uhL ((hexL h).take k) = h / 16 ^ (16 - k) % 16 ^ k
  | 0, _ => by rw [List.take_zero]; show 0 = _; rw [Nat.pow_zero, Nat.mod_one]
  | k + 1, hk => by
    have ih := uh_take h k (by omega)
    have hg : (hexL h)[k]? = some (UInt8.ofNat (hexAt h k)) := by
      unfold hexL
      rw [List.getElem?_map, List.getElem?_range (by omega)]
      rfl
    rw [List.take_add_one, hg, Option.toList_some]
    show ((hexL h).take k ++ [UInt8.ofNat (hexAt h k)]).foldl _ 0 = _
    rw [List.foldl_append]
    show uhL ((hexL h).take k) * 16 + hexVal (UInt8.ofNat (hexAt h k)).toNat = _
    rw [ih]
    unfold hexAt
    rw [(hexC_back (Nat.mod_lt _ (by decide))).1]
    have e1 : 16 ^ (16 - k) = 16 ^ (16 - (k + 1)) * 16 := by rw [← Nat.pow_succ, show (16 - (k + 1)).succ = 16 - k by omega]
    have e2 : 15 - k = 16 - (k + 1) := by omega
    rw [e2, e1, ← Nat.div_div_eq_div_mul, Nat.pow_succ]
    generalize h / 16 ^ (16 - (k + 1)) = x
    generalize 16 ^ k = y
    rw [Nat.mul_comm y 16, Nat.mod_mul]
    omega
theorem hex_back (h : Nat) (hh : h < 18446744073709551616) : unOk (hexB h) = true ∧ unOf (hexB h) = h := by
  have e1 : unOk (hexB h) = true := by
    unfold unOk
    have hs : (hexB h).size = 16 := by rw [← size_list]; unfold hexB; rw [mk_list, hexL_len]
    rw [hs]
    have : allB isHexI (hexB h) = true := by
      unfold allB
      rw [List.all_eq_true]
      intro b hb
      unfold hexB at hb
      rw [mk_list] at hb
      unfold hexL at hb
      obtain ⟨j, _, rfl⟩ := List.mem_map.1 hb
      exact (hexC_back (Nat.mod_lt _ (by decide))).2
    rw [this]
    rfl
  refine ⟨e1, ?_⟩
  unfold unOf
  rw [if_pos e1]
  unfold hexB
  rw [mk_list]
  have := uh_take h 16 (Nat.le_refl _)
  rw [List.take_of_length_le (by rw [hexL_len]; exact Nat.le_refl _)] at this
  rw [this, Nat.sub_self, Nat.pow_zero, Nat.div_one]
  exact Nat.mod_eq_of_lt (by have : (16 : Nat) ^ 16 = 18446744073709551616 := by decide
                             omega)

end Go.Proofs.YtaedgkaldafbbabDoor
