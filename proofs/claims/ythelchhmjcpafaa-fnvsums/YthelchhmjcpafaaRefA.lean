/-
  What the reference's 'More' and 'Sum' answer: the same hash.
-/
import Derived.Test.YthelchhmjcpafaaLawP
namespace Go.Proofs.Ythelchhmjcpafaa
open Go.RowKit

theorem mask_bit (i : Nat) : (18446744073709551615 - 255 : Nat).testBit i = (decide (i < 64) && !decide (i < 8)) := by
  have e : (18446744073709551615 - 255 : Nat) = 2 ^ 64 - (255 + 1) := by decide
  rw [e, Nat.testBit_two_pow_sub_succ (by decide)]
  have e2 : (255 : Nat) = 2 ^ 8 - 1 := by decide
  rw [e2, Nat.testBit_two_pow_sub_one]

theorem low_eight (x b : Nat) (hx : x < 18446744073709551616) (hb : b < 256) : (x &&& (18446744073709551615 - 255)) ||| (x % 256 ^^^ b) = x ^^^ b := by
  apply Nat.eq_of_testBit_eq
  intro i
  have e : x % 256 = x % 2 ^ 8 := rfl
  rw [Nat.testBit_or, Nat.testBit_and, Nat.testBit_xor, Nat.testBit_xor, mask_bit, e, Nat.testBit_mod_two_pow]
  by_cases c : i < 8
  · simp [c]
  · have hbi : b.testBit i = false := Nat.testBit_lt_two_pow (Nat.lt_of_lt_of_le hb (by
      have : 2 ^ 8 ≤ 2 ^ i := Nat.pow_le_pow_right (by decide) (by omega)
      exact this))
    by_cases d : i < 64
    · simp [c, d, hbi]
    · have hxi : x.testBit i = false := Nat.testBit_lt_two_pow (Nat.lt_of_lt_of_le hx (by
        have : 2 ^ 64 ≤ 2 ^ i := Nat.pow_le_pow_right (by decide) (by omega)
        exact this))
      simp [c, d, hbi, hxi]

theorem turned (x : Nat) (hx : x < 18446744073709551616) (b : UInt8) :
    bits .or .u64 (bits .andNot .u64 (x : Int) 255) (bits .xor .u64 ((x : Int) % 256) (IntKind.u64.wrap (b.toNat : Int))) = ((x ^^^ b.toNat : Nat) : Int) := by
  have hb := byte_lt b
  have e1 : bits .andNot .u64 (x : Int) 255 = ((x &&& (18446744073709551615 - 255) : Nat) : Int) := u64_andNot_nat x 255 hx (by omega)
  have e2 : ((x : Int) % 256) = ((x % 256 : Nat) : Int) := by omega
  have l1 : x &&& (18446744073709551615 - 255) < 18446744073709551616 := Nat.lt_of_le_of_lt Nat.and_le_left hx
  have l2 : x % 256 ^^^ b.toNat < 18446744073709551616 := xor_byte_lt _ b (by omega)
  rw [e1, e2, byte_wrap, bits_xor_u64_nat _ _ (by omega) (by omega), bits_or_u64_nat _ _ l1 l2, low_eight x b.toNat hx hb]

theorem rstep_eq (x : Nat) (hx : x < 18446744073709551616) (b : UInt8) :
    IntKind.u64.wrap (IntKind.u64.wrap (IntKind.u64.wrap (bits .or .u64 (bits .andNot .u64 (x : Int) 255) (bits .xor .u64 ((x : Int) % 256) (IntKind.u64.wrap (b.toNat : Int))) * 1099511627776)
      + IntKind.u64.wrap (bits .or .u64 (bits .andNot .u64 (x : Int) 255) (bits .xor .u64 ((x : Int) % 256) (IntKind.u64.wrap (b.toNat : Int))) * 256))
      + IntKind.u64.wrap (179 * bits .or .u64 (bits .andNot .u64 (x : Int) 255) (bits .xor .u64 ((x : Int) % 256) (IntKind.u64.wrap (b.toNat : Int))))) = ((stp x b : Nat) : Int) := by
  rw [turned x hx b]
  simp only [IntKind.wrap_u64]
  unfold stp
  generalize x ^^^ b.toNat = y
  omega

theorem rmore_ok (h : Nat) (s : ByteArray) (hh : h < 18446744073709551616) (hs : s.size ≤ 9223372036854775807) (w : World) :
    Calls Try.prog 12 #[.int .u64 h, .string s] w fun e w' => e = .returned (.int .u64 (more h s : Nat)) ∧ w' = w := by
  go_enter Try.func12, Try.ntmps12
  go_wp2
  go_loop [0, 5] (fun x i => ∃ k : Nat, k ≤ s.size ∧ i = .int .i64 k ∧ x = .int .u64 (upTo h s k : Nat)) (fun _ i => s.size - (intOf i).toNat)
  case atStart => exact ⟨0, Nat.zero_le _, rfl, by rw [upTo_zero]⟩
  case round =>
    obtain ⟨k, hk, rfl, rfl⟩ := hrel
    by_cases hlt : k < s.size
    · have lt := upTo_lt hh s k
      go_wp2
      go_round
      case rel => exact ⟨k + 1, by omega, by go_num, by rw [rstep_eq _ lt, ← upTo_succ h s k hlt]⟩
      case measure => simp [intOf]; omega
    · obtain rfl : k = s.size := by omega
      go_wp2
      go_ret
      exact ⟨by rw [upTo_all]; rfl, rfl⟩

theorem rsum_ok (s : ByteArray) (hs : s.size ≤ 9223372036854775807) (w : World) :
    Calls Try.prog 10 #[.string s] w fun e w' => e = .returned (.int .u64 (sum s : Nat)) ∧ w' = w := by
  go_enter Try.func10, Try.ntmps10
  go_wp2_with fail
  go_at_call 12
  have H := rmore_ok start s start_lt hs w
  rw [← sum_eq, start_eq] at H
  refine H.mono ?_
  rintro e w' ⟨rfl, rfl⟩
  go_wp2
  go_ret
  exact ⟨rfl, rfl⟩
end Go.Proofs.Ythelchhmjcpafaa
