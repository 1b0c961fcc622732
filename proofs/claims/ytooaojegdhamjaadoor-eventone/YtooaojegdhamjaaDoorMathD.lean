/-
  Numbers in digits, and back; numbers in sixteen digits of four bits, and back. No condition.
-/
import Derived.Test.YtooaojegdhamjaaDoorWalkC
import Derived.Test.YtooaojegdhamjaaDoorWalkE
import Derived.Lib.ItoaNum
namespace Go.Proofs.YtooaojegdhamjaaDoor
open Go.Lib

theorem valL_snoc (l : List UInt8) (b : UInt8) : valL (l ++ [b]) = valL l * 10 + (b.toNat - 48) := by
  unfold valL
  rw [List.foldl_append]
  rfl
theorem dec_small {n : Nat} (h : n < 10) : decDigits n = [UInt8.ofNat (48 + n)] := by rw [decDigits, dif_pos h]
theorem dec_big {n : Nat} (h : ¬ n < 10) : decDigits n = decDigits (n / 10) ++ [UInt8.ofNat (48 + n % 10)] := by rw [decDigits, dif_neg h]
theorem byte_of {n : Nat} (h : n < 10) : (UInt8.ofNat (48 + n)).toNat = 48 + n := by simp; omega

def IsD (l : List UInt8) : Prop := ∀ b ∈ l, 48 ≤ b.toNat ∧ b.toNat ≤ 57

theorem dec_ind {motive : Nat → Prop} (h1 : ∀ n, n < 10 → motive n) (h2 : ∀ n, ¬ n < 10 → motive (n / 10) → motive n) : ∀ n, motive n := by
  intro n
  induction n using Nat.strongRecOn with
  | ind n ih =>
    by_cases h : n < 10
    · exact h1 n h
    · exact h2 n h (ih (n / 10) (by omega))

theorem dec_digits : ∀ n, IsD (decDigits n) := by
  apply dec_ind
  · intro n h b hb
    rw [dec_small h] at hb
    have : b = UInt8.ofNat (48 + n) := by simpa using hb
    subst this
    rw [byte_of h]
    omega
  · intro n h ih b hb
    rw [dec_big h] at hb
    rcases List.mem_append.1 hb with hb | hb
    · exact ih b hb
    · have : b = UInt8.ofNat (48 + n % 10) := by simpa using hb
      subst this
      rw [byte_of (Nat.mod_lt _ (by decide))]
      omega
theorem dec_val : ∀ n, valL (decDigits n) = n := by
  apply dec_ind
  · intro n h
    rw [dec_small h]
    show 0 * 10 + ((UInt8.ofNat (48 + n)).toNat - 48) = n
    rw [byte_of h]
    omega
  · intro n h ih
    rw [dec_big h, valL_snoc, ih, byte_of (Nat.mod_lt _ (by decide))]
    omega
theorem dec_pos : ∀ n, 1 ≤ (decDigits n).length := by
  intro n
  by_cases h : n < 10
  · rw [dec_small h]; exact Nat.le_refl 1
  · rw [dec_big h, List.length_append]; simp
theorem dec_len : ∀ n k, 1 ≤ k → n < 10 ^ k → (decDigits n).length ≤ k := by
  apply dec_ind (motive := fun n => ∀ k, 1 ≤ k → n < 10 ^ k → (decDigits n).length ≤ k)
  · intro n h k hk _
    rw [dec_small h]
    simpa using hk
  · intro n h ih k hk hn
    rw [dec_big h, List.length_append]
    have h2 : 2 ≤ k := by
      rcases (by omega : k = 1 ∨ 2 ≤ k) with rfl | h2
      · omega
      · exact h2
    obtain ⟨j, rfl⟩ : ∃ j, k = j + 1 := ⟨k - 1, by omega⟩
    have := ih j (by omega) (by rw [Nat.pow_succ] at hn; omega)
    simp
    omega
theorem dec_head : ∀ n, 1 ≤ n → (decDigits n).head? ≠ some 48 := by
  apply dec_ind (motive := fun n => 1 ≤ n → (decDigits n).head? ≠ some 48)
  · intro n h h1
    rw [dec_small h]
    intro e
    have e2 : UInt8.ofNat (48 + n) = 48 := by simpa using e
    have := congrArg UInt8.toNat e2
    rw [byte_of h] at this
    have h48 : (48 : UInt8).toNat = 48 := rfl
    omega
  · intro n h ih _
    rw [dec_big h]
    have := ih (by omega)
    cases hc : decDigits (n / 10) with
    | nil => have := dec_pos (n / 10); rw [hc] at this; simp at this
    | cons x t => rw [hc] at this; exact this

theorem snoc_ind {motive : List UInt8 → Prop} (h1 : motive []) (h2 : ∀ l b, motive l → motive (l ++ [b])) : ∀ l, motive l := by
  intro l
  have : ∀ l : List UInt8, motive l.reverse := by
    intro l
    induction l with
    | nil => exact h1
    | cons b l ih => rw [List.reverse_cons]; exact h2 _ b ih
  have h := this l.reverse
  rwa [List.reverse_reverse] at h

theorem val_pos : ∀ l : List UInt8, IsD l → l ≠ [] → l.head? ≠ some 48 → 1 ≤ valL l := by
  apply snoc_ind (motive := fun l => IsD l → l ≠ [] → l.head? ≠ some 48 → 1 ≤ valL l)
  · intro _ h; exact absurd rfl h
  · intro l b ih hd _ hh
    rw [valL_snoc]
    have hb := hd b (by simp)
    cases l with
    | nil =>
      have hne : b.toNat ≠ 48 := fun e => hh (by rw [List.nil_append, List.head?_cons]; congr 1; exact UInt8.toNat_inj.1 e)
      omega
    | cons x t =>
      have := ih (fun y hy => hd y (List.mem_append_left _ hy)) (by simp) (by simpa using hh)
      omega

end Go.Proofs.YtooaojegdhamjaaDoor
