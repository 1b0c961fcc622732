/-
  What 'More', 'Sum', 'Flow' of the program answer. No condition but that a text has a length.
-/
import Derived.Test.YthelchhmjcpafaaMath
import Derived.Laws.Bits64b
import Derived.Laws.BitsAllLaws
namespace Go.Proofs.Ythelchhmjcpafaa
open Go.RowKit

/-- The hash of the first k bytes. -/
def upTo (h : Nat) (s : ByteArray) (k : Nat) : Nat := hsh h (s.data.toList.take k)

def intOf : Value → Int
  | .int _ n => n
  | _ => 0

theorem upTo_zero (h : Nat) (s : ByteArray) : upTo h s 0 = h := by unfold upTo; rw [List.take_zero, hsh_nil]
theorem upTo_lt {h : Nat} (hh : h < 18446744073709551616) (s : ByteArray) (k : Nat) : upTo h s k < 18446744073709551616 := hsh_lt _ _ hh
theorem upTo_all (h : Nat) (s : ByteArray) : upTo h s s.size = more h s := by
  unfold upTo
  rw [more_eq]
  rw [List.take_of_length_le]
  rw [Array.length_toList]
  exact Nat.le_refl _
theorem upTo_succ (h : Nat) (s : ByteArray) (k : Nat) (hk : k < s.size) : upTo h s (k + 1) = stp (upTo h s k) s[k] := by
  unfold upTo
  have hl : k < s.data.toList.length := by rw [Array.length_toList]; exact hk
  rw [List.take_add_one, List.getElem?_eq_getElem hl, Option.toList_some, hsh_snoc]
  rfl

theorem byte_lt (b : UInt8) : b.toNat < 256 := b.toNat_lt

theorem byte_wrap (b : UInt8) : IntKind.u64.wrap (b.toNat : Int) = (b.toNat : Int) := by
  have := byte_lt b
  rw [IntKind.wrap_u64]
  omega

theorem step_eq (x : Nat) (hx : x < 18446744073709551616) (b : UInt8) :
    IntKind.u64.wrap (bits .xor .u64 (x : Int) (IntKind.u64.wrap (b.toNat : Int)) * 1099511628211) = ((stp x b : Nat) : Int) := by
  have := byte_lt b
  rw [byte_wrap, bits_xor_u64_nat x b.toNat hx (by omega), IntKind.wrap_u64]
  unfold stp
  generalize x ^^^ b.toNat = y
  omega

theorem more_ok (h : Nat) (s : ByteArray) (hh : h < 18446744073709551616) (hs : s.size ≤ 9223372036854775807) (w : World) :
    Calls Try.prog 11 #[.int .u64 h, .string s] w fun e w' => e = .returned (.int .u64 (more h s : Nat)) ∧ w' = w := by
  go_enter Try.func11, Try.ntmps11
  go_wp2
  go_loop [0, 8] (fun x i => ∃ k : Nat, k ≤ s.size ∧ i = .int .i64 k ∧ x = .int .u64 (upTo h s k : Nat)) (fun _ i => s.size - (intOf i).toNat)
  case atStart => exact ⟨0, Nat.zero_le _, rfl, by rw [upTo_zero]⟩
  case round =>
    obtain ⟨k, hk, rfl, rfl⟩ := hrel
    by_cases hlt : k < s.size
    · have e : IntKind.u64.wrap (bits .xor .u64 ((upTo h s k : Nat) : Int) (IntKind.u64.wrap (s[k].toNat : Int)) * 1099511628211) = ((upTo h s (k + 1) : Nat) : Int) := by
        rw [upTo_succ h s k hlt]; exact step_eq _ (upTo_lt hh s k) _
      go_wp2
      go_round
      case rel => exact ⟨k + 1, by omega, by go_num, rfl⟩
      case measure => simp [intOf]; omega
    · obtain rfl : k = s.size := by omega
      go_wp2
      go_ret
      exact ⟨by rw [upTo_all]; rfl, rfl⟩

theorem start_eq : ((start : Nat) : Int) = 14695981039346656037 := by unfold start; rfl

theorem sum_ok (s : ByteArray) (hs : s.size ≤ 9223372036854775807) (w : World) :
    Calls Try.prog 9 #[.string s] w fun e w' => e = .returned (.int .u64 (sum s : Nat)) ∧ w' = w := by
  go_enter Try.func9, Try.ntmps9
  go_wp2_with fail
  go_at_call 11
  have H := more_ok start s start_lt hs w
  rw [← sum_eq, start_eq] at H
  refine H.mono ?_
  rintro e w' ⟨rfl, rfl⟩
  go_wp2
  go_ret
  exact ⟨rfl, rfl⟩

theorem more_zero (h : Nat) : more h ⟨#[0]⟩ = stp h 0 := by
  rw [more_eq]
  show hsh h [0] = _
  rw [hsh_cons, hsh_nil]

theorem flow_ok (s t : ByteArray) (hs : s.size ≤ 9223372036854775807) (ht : t.size ≤ 9223372036854775807) (w : World) :
    Calls Try.prog 13 #[.string s, .string t] w fun e w' => e = .returned (.int .u64 (flow s t : Nat)) ∧ w' = w := by
  go_enter Try.func13, Try.ntmps13
  go_wp2_with fail
  go_at_call 9
  refine (sum_ok s hs w).mono ?_
  rintro e w' ⟨rfl, hw⟩; obtain rfl := hw.symm
  go_wp2_with fail
  go_at_call 11
  refine (more_ok (sum s) ⟨#[0]⟩ (sum_lt s) (by decide) _).mono ?_
  rintro e w' ⟨rfl, hw⟩; obtain rfl := hw.symm
  rw [more_zero]
  go_wp2_with fail
  go_at_call 11
  have H := more_ok (stp (sum s) 0) t (stp_lt _ _) ht w
  rw [← flow_eq] at H
  refine H.mono ?_
  rintro e w' ⟨rfl, hw⟩; obtain rfl := hw.symm
  go_wp2
  go_ret
  exact ⟨rfl, rfl⟩

theorem foobar : sum ⟨#[102, 111, 111, 98, 97, 114]⟩ = 9625390261332436968 := by decide +kernel

theorem awake_ok (w : World) : Calls Try.prog 8 #[] w fun e w' => e = .returned (.bool true) ∧ w' = w := by
  go_enter Try.func8, Try.ntmps8
  go_wp2_with fail
  go_at_call 9
  refine (sum_ok ⟨#[102, 111, 111, 98, 97, 114]⟩ (by decide) w).mono ?_
  rintro e w' ⟨rfl, rfl⟩
  rw [foobar]
  go_wp2
  go_ret
  exact ⟨rfl, rfl⟩
end Go.Proofs.Ythelchhmjcpafaa
