/-
  What 'Len64' and 'LeadingZeros64' answer: how many digits of base two a word has that is not 0. Conditions: a word of 64 bits, above 0.
-/
import Derived.Test.YtjpjifoanadbdaaWalkB
namespace Go.Proofs.Ytjpjifoanadbdaa
open Go.RowKit Go.Lib

def tab : ByteArray := ⟨#[0, 1, 2, 2, 3, 3, 3, 3, 4, 4, 4, 4, 4, 4, 4, 4, 5, 5, 5, 5, 5, 5, 5, 5, 5, 5, 5, 5, 5, 5, 5, 5, 6, 6, 6, 6, 6, 6, 6, 6, 6, 6, 6, 6, 6, 6, 6, 6, 6, 6, 6, 6, 6, 6, 6, 6, 6, 6, 6, 6, 6, 6, 6, 6, 7, 7, 7, 7, 7, 7, 7, 7, 7, 7, 7, 7, 7, 7, 7, 7, 7, 7, 7, 7, 7, 7, 7, 7, 7, 7, 7, 7, 7, 7, 7, 7, 7, 7, 7, 7, 7, 7, 7, 7, 7, 7, 7, 7, 7, 7, 7, 7, 7, 7, 7, 7, 7, 7, 7, 7, 7, 7, 7, 7, 7, 7, 7, 7, 8, 8, 8, 8, 8, 8, 8, 8, 8, 8, 8, 8, 8, 8, 8, 8, 8, 8, 8, 8, 8, 8, 8, 8, 8, 8, 8, 8, 8, 8, 8, 8, 8, 8, 8, 8, 8, 8, 8, 8, 8, 8, 8, 8, 8, 8, 8, 8, 8, 8, 8, 8, 8, 8, 8, 8, 8, 8, 8, 8, 8, 8, 8, 8, 8, 8, 8, 8, 8, 8, 8, 8, 8, 8, 8, 8, 8, 8, 8, 8, 8, 8, 8, 8, 8, 8, 8, 8, 8, 8, 8, 8, 8, 8, 8, 8, 8, 8, 8, 8, 8, 8, 8, 8, 8, 8, 8, 8, 8, 8, 8, 8, 8, 8, 8, 8, 8, 8, 8, 8, 8, 8, 8, 8, 8, 8, 8, 8]⟩
set_option maxRecDepth 100000 in
theorem tab_size : tab.size = 256 := by decide +kernel
set_option maxRecDepth 100000 in
theorem tab_fin : ∀ i : Fin 256, (tab[i.val]'(by rw [tab_size]; exact i.isLt)).toNat ≤ 8 ∧ i.val < 2 ^ (tab[i.val]'(by rw [tab_size]; exact i.isLt)).toNat ∧ (1 ≤ i.val → 1 ≤ (tab[i.val]'(by rw [tab_size]; exact i.isLt)).toNat ∧ 2 ^ ((tab[i.val]'(by rw [tab_size]; exact i.isLt)).toNat - 1) ≤ i.val) := by decide +kernel

/-- The number of digits, from what lies above the low K digits. -/
def LenIs (x n : Int) : Prop := ∃ m : Nat, n = m ∧ 1 ≤ m ∧ m ≤ 64 ∧ (2 : Int) ^ (m - 1) ≤ x ∧ x < (2 : Int) ^ m

theorem len_close (x i : Int) (K : Nat) (t : Nat) (hK : K ≤ 56) (hi : i = x / 2 ^ K) (h1 : 1 ≤ i) (h8 : t ≤ 8) (hlt : i.toNat < 2 ^ t) (hge : 1 ≤ t ∧ 2 ^ (t - 1) ≤ i.toNat) : LenIs x (wrap64 ((K : Int) + wrap64 (t : Int))) := by
  obtain ⟨ht, hge⟩ := hge
  refine ⟨K + t, by unfold wrap64; omega, by omega, by omega, ?_, ?_⟩
  · have e : K + t - 1 = (t - 1) + K := by omega
    rw [e, Int.pow_add]
    have hp : (0 : Int) < 2 ^ K := Int.pow_pos (by decide)
    have h2 : ((2 : Int) ^ (t - 1)) ≤ x / 2 ^ K := by
      rw [← hi]
      have : ((2 ^ (t - 1) : Nat) : Int) ≤ (i.toNat : Int) := by exact_mod_cast hge
      rw [Int.toNat_of_nonneg (by omega)] at this
      simpa using this
    exact (Int.le_ediv_iff_mul_le hp).mp h2
  · rw [Nat.add_comm, Int.pow_add]
    have hp : (0 : Int) < 2 ^ K := Int.pow_pos (by decide)
    have h2 : x / 2 ^ K < ((2 : Int) ^ t) := by
      rw [← hi]
      have : (i.toNat : Int) < ((2 ^ t : Nat) : Int) := by exact_mod_cast hlt
      rw [Int.toNat_of_nonneg (by omega)] at this
      simpa using this
    exact (Int.ediv_lt_iff_lt_mul hp).mp h2

theorem len_at (x i : Int) (K : Nat) (hK : K ≤ 56) (hi : i = x / 2 ^ K) (h1 : 1 ≤ i) (h : i.toNat < tab.size) : LenIs x (wrap64 ((K : Int) + wrap64 ((tab[i.toNat]).toNat : Int))) := by
  have hz := tab_size
  obtain ⟨a, b, c⟩ := tab_fin ⟨i.toNat, by omega⟩
  exact len_close x i K _ hK hi h1 a b (c (by show 1 ≤ i.toNat; omega))

theorem len_at0 (x : Int) (h1 : 1 ≤ x) (h : x.toNat < tab.size) : LenIs x (wrap64 (wrap64 ((tab[x.toNat]).toNat : Int))) := by
  have e := len_at x x 0 (by omega) (by simp) h1 h
  rw [show ((0 : Nat) : Int) = 0 from rfl, Int.zero_add] at e
  exact e

set_option maxRecDepth 100000 in
set_option maxHeartbeats 1000000 in
theorem len64_any (x : Int) (w : World) (hx : Word x) (h0 : 1 ≤ x) :
    Calls Try.prog 31 #[.int .u64 x] w fun e w' => (∃ n : Int, e = .returned (.int .i64 n) ∧ LenIs x n) ∧ w' = w := by
  obtain ⟨h1, h2⟩ := hx
  go_enter Try.func31, Try.ntmps31
  go_wp2
  all_goals go_ret
  · exact ⟨⟨_, rfl, len_at x (x / 4294967296 / 65536 / 256) 56 (by omega) (by omega) (by omega) (by rw [tab_size]; omega)⟩, rfl⟩
  · exact ⟨⟨_, rfl, len_at x (x / 4294967296 / 65536) 48 (by omega) (by omega) (by omega) (by rw [tab_size]; omega)⟩, rfl⟩
  · exact ⟨⟨_, rfl, len_at x (x / 4294967296 / 256) 40 (by omega) (by omega) (by omega) (by rw [tab_size]; omega)⟩, rfl⟩
  · exact ⟨⟨_, rfl, len_at x (x / 4294967296) 32 (by omega) (by omega) (by omega) (by rw [tab_size]; omega)⟩, rfl⟩
  · exact ⟨⟨_, rfl, len_at x (x / 65536 / 256) 24 (by omega) (by omega) (by omega) (by rw [tab_size]; omega)⟩, rfl⟩
  · exact ⟨⟨_, rfl, len_at x (x / 65536) 16 (by omega) (by omega) (by omega) (by rw [tab_size]; omega)⟩, rfl⟩
  · exact ⟨⟨_, rfl, len_at x (x / 256) 8 (by omega) (by omega) (by omega) (by rw [tab_size]; omega)⟩, rfl⟩
  · exact ⟨⟨_, rfl, len_at0 x h0 (by rw [tab_size]; omega)⟩, rfl⟩

/-- How far a word is to be moved until its highest digit stands at the top. -/
def LzIs (x n : Int) : Prop := ∃ s : Nat, n = s ∧ s ≤ 63 ∧ 9223372036854775808 ≤ x * (2 : Int) ^ s ∧ x * (2 : Int) ^ s < 18446744073709551616

theorem lz_of_len {x n : Int} (h : LenIs x n) : 0 ≤ n ∧ n ≤ 64 ∧ LzIs x (64 - n) := by
  obtain ⟨m, rfl, h1, h2, h3, h4⟩ := h
  refine ⟨by omega, by omega, 64 - m, by omega, by omega, ?_, ?_⟩
  · have hp : (0 : Int) ≤ 2 ^ (64 - m) := Int.le_of_lt (Int.pow_pos (by decide))
    have := Int.mul_le_mul_of_nonneg_right h3 hp
    rw [← Int.pow_add, show m - 1 + (64 - m) = 63 by omega] at this
    exact this
  · have hp : (0 : Int) < 2 ^ (64 - m) := Int.pow_pos (by decide)
    have := Int.mul_lt_mul_of_pos_right h4 hp
    rw [← Int.pow_add, show m + (64 - m) = 64 by omega] at this
    exact this

set_option maxHeartbeats 400000 in
theorem lz64_any (x : Int) (w : World) (hx : Word x) (h0 : 1 ≤ x) :
    Calls Try.prog 29 #[.int .u64 x] w fun e w' => (∃ n : Int, e = .returned (.int .i64 n) ∧ LzIs x n) ∧ w' = w := by
  go_enter Try.func29, Try.ntmps29
  go_wp2_with (go_at_call 31; refine (len64_any _ _ hx h0).mono ?_; rintro e w' ⟨⟨n, rfl, hn⟩, rfl⟩; obtain ⟨n1, n2, hz⟩ := lz_of_len hn)
  go_ret
  exact ⟨⟨_, rfl, hz⟩, rfl⟩
end Go.Proofs.Ytjpjifoanadbdaa
