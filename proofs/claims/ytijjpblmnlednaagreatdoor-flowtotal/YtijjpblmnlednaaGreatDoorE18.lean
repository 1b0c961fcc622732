/-
  The hash: as plain mathematics, over Nat, byte by byte; what Sum and More of the program and of the reference answer.
-/
import Derived.Test.YtijjpblmnlednaaGreatDoorRows
import Derived.WalkKit
import Derived.Laws.Bits64b
import Derived.Laws.BitsAllLaws
namespace Go.Proofs.YtijjpblmnlednaaGreatDoor.Fn
open Go.RowKit
/-- One byte's step. -/
def stp (h : Nat) (b : UInt8) : Nat := (h ^^^ b.toNat) * 1099511628211 % 18446744073709551616
/-- The hash of a list of bytes, begun with h. -/
def hsh (h : Nat) (l : List UInt8) : Nat := l.foldl stp h

theorem stp_lt (h : Nat) (b : UInt8) : stp h b < 18446744073709551616 := by unfold stp; omega

theorem hsh_nil (h : Nat) : hsh h [] = h := rfl
theorem hsh_app (h : Nat) (l m : List UInt8) : hsh h (l ++ m) = hsh (hsh h l) m := by unfold hsh; rw [List.foldl_append]
theorem hsh_cons (h : Nat) (b : UInt8) (l : List UInt8) : hsh h (b :: l) = hsh (stp h b) l := by unfold hsh; rw [List.foldl_cons]
theorem hsh_snoc (h : Nat) (l : List UInt8) (b : UInt8) : hsh h (l ++ [b]) = stp (hsh h l) b := by rw [hsh_app, hsh_cons, hsh_nil]

theorem hsh_lt (l : List UInt8) : ∀ (h : Nat), h < 18446744073709551616 → hsh h l < 18446744073709551616 := by
  induction l with
  | nil => intro h hh; rw [hsh_nil]; exact hh
  | cons b l ih => intro h _; rw [hsh_cons]; exact ih _ (stp_lt h b)

theorem xor_byte_lt (h : Nat) (b : UInt8) (hh : h < 18446744073709551616) : h ^^^ b.toNat < 18446744073709551616 := by
  have e : (18446744073709551616 : Nat) = 2 ^ 64 := by decide
  have hb : b.toNat < 256 := b.toNat_lt
  rw [e] at hh ⊢
  exact Nat.xor_lt_two_pow hh (by omega)

theorem back_of (a : Nat) (ha : a < 18446744073709551616) : a * 1099511628211 % 18446744073709551616 * 14886173955864302971 % 18446744073709551616 = a := by omega

theorem mul_inj {a b : Nat} (ha : a < 18446744073709551616) (hb : b < 18446744073709551616) (h : a * 1099511628211 % 18446744073709551616 = b * 1099511628211 % 18446744073709551616) : a = b := by
  rw [← back_of a ha, ← back_of b hb, h]

theorem stp_inj {h k : Nat} {b c : UInt8} (hh : h < 18446744073709551616) (hk : k < 18446744073709551616) (he : stp h b = stp k c) : h ^^^ b.toNat = k ^^^ c.toNat :=
  mul_inj (xor_byte_lt h b hh) (xor_byte_lt k c hk) he

theorem xor_left {a b c : Nat} (h : a ^^^ b = a ^^^ c) : b = c := by
  have := congrArg (fun x => a ^^^ x) h
  simpa [← Nat.xor_assoc] using this

/-- From two other beginnings one text leads to two other hashes. -/
theorem hsh_inj (l : List UInt8) : ∀ (g h : Nat), g < 18446744073709551616 → h < 18446744073709551616 → hsh g l = hsh h l → g = h := by
  induction l with
  | nil => intro g h _ _ he; rw [hsh_nil, hsh_nil] at he; exact he
  | cons b l ih =>
    intro g h hg hh he
    rw [hsh_cons, hsh_cons] at he
    have h1 := stp_inj hg hh (ih _ _ (stp_lt g b) (stp_lt h b) he)
    rw [Nat.xor_comm g, Nat.xor_comm h] at h1
    exact xor_left h1

/-- Only the last byte is another. -/
theorem last_inj {h : Nat} {a b : UInt8} (hh : h < 18446744073709551616) (he : stp h a = stp h b) : a = b :=
  UInt8.toNat_inj.1 (xor_left (stp_inj hh hh he))

def start : Nat := 14695981039346656037
theorem start_lt : start < 18446744073709551616 := by unfold start; omega
/-- The hash of a text, begun with h. -/
def more (h : Nat) (s : ByteArray) : Nat := hsh h s.data.toList
def sum (s : ByteArray) : Nat := more start s
def flow (s t : ByteArray) : Nat := more (stp (sum s) 0) t
theorem more_eq (h : Nat) (s : ByteArray) : more h s = hsh h s.data.toList := rfl
theorem sum_eq (s : ByteArray) : sum s = more start s := rfl
theorem flow_eq (s t : ByteArray) : flow s t = more (stp (sum s) 0) t := rfl
theorem more_lt {h : Nat} (hh : h < 18446744073709551616) (s : ByteArray) : more h s < 18446744073709551616 := hsh_lt _ _ hh
theorem sum_lt (s : ByteArray) : sum s < 18446744073709551616 := more_lt start_lt s
theorem flow_lt (s t : ByteArray) : flow s t < 18446744073709551616 := more_lt (stp_lt _ _) t


/-- The hash of the first k bytes. -/
def upTo (h : Nat) (s : ByteArray) (k : Nat) : Nat := hsh h (s.data.toList.take k)

def intOf : Value → Int
  | .int _ n => n
  | _ => 0

theorem upTo_zero (h : Nat) (s : ByteArray) : upTo h s 0 = h := by unfold upTo; rw [List.take_zero, hsh_nil]
theorem upTo_lt {h : Nat} (hh : h < 18446744073709551616) (s : ByteArray) (k : Nat) : upTo h s k < 18446744073709551616 := hsh_lt _ _ hh
theorem upTo_all (h : Nat) (s : ByteArray) : upTo h s s.size = more h s := by
  unfold upTo
  rw [more_eq]
  rw [List.take_of_length_le]
  rw [Array.length_toList]
  exact Nat.le_refl _
theorem upTo_succ (h : Nat) (s : ByteArray) (k : Nat) (hk : k < s.size) : upTo h s (k + 1) = stp (upTo h s k) s[k] := by
  unfold upTo
  have hl : k < s.data.toList.length := by rw [Array.length_toList]; exact hk
  rw [List.take_add_one, List.getElem?_eq_getElem hl, Option.toList_some, hsh_snoc]
  rfl

theorem byte_lt (b : UInt8) : b.toNat < 256 := b.toNat_lt

theorem byte_wrap (b : UInt8) : IntKind.u64.wrap (b.toNat : Int) = (b.toNat : Int) := by
  have := byte_lt b
  rw [IntKind.wrap_u64]
  omega

theorem step_eq (x : Nat) (hx : x < 18446744073709551616) (b : UInt8) :
    IntKind.u64.wrap (bits .xor .u64 (x : Int) (IntKind.u64.wrap (b.toNat : Int)) * 1099511628211) = ((stp x b : Nat) : Int) := by
  have := byte_lt b
  rw [byte_wrap, bits_xor_u64_nat x b.toNat hx (by omega), IntKind.wrap_u64]
  unfold stp
  generalize x ^^^ b.toNat = y
  omega

theorem more_ok (h : Nat) (s : ByteArray) (hh : h < 18446744073709551616) (hs : s.size ≤ 9223372036854775807) (w : World) :
    Calls Tryz.prog 46 #[.int .u64 h, .string s] w fun e w' => e = .returned (.int .u64 (more h s : Nat)) ∧ w' = w := by
  go_enter Tryz.func46, Tryz.ntmps46
  go_wp2
  go_loop [0, 8] (fun x i => ∃ k : Nat, k ≤ s.size ∧ i = .int .i64 k ∧ x = .int .u64 (upTo h s k : Nat)) (fun _ i => s.size - (intOf i).toNat)
  case atStart => exact ⟨0, Nat.zero_le _, rfl, by rw [upTo_zero]⟩
  case round =>
    obtain ⟨k, hk, rfl, rfl⟩ := hrel
    by_cases hlt : k < s.size
    · have e : IntKind.u64.wrap (bits .xor .u64 ((upTo h s k : Nat) : Int) (IntKind.u64.wrap (s[k].toNat : Int)) * 1099511628211) = ((upTo h s (k + 1) : Nat) : Int) := by
        rw [upTo_succ h s k hlt]; exact step_eq _ (upTo_lt hh s k) _
      go_wp2
      go_round
      case rel => exact ⟨k + 1, by omega, by go_num, rfl⟩
      case measure => simp [intOf]; omega
    · obtain rfl : k = s.size := by omega
      go_wp2
      go_ret
      exact ⟨by rw [upTo_all]; rfl, rfl⟩

theorem start_eq : ((start : Nat) : Int) = 14695981039346656037 := by unfold start; rfl

theorem sum_ok (s : ByteArray) (hs : s.size ≤ 9223372036854775807) (w : World) :
    Calls Tryz.prog 18 #[.string s] w fun e w' => e = .returned (.int .u64 (sum s : Nat)) ∧ w' = w := by
  go_enter Tryz.func18, Tryz.ntmps18
  go_wp2_with fail
  go_at_call 46
  have H := more_ok start s start_lt hs w
  rw [← sum_eq, start_eq] at H
  refine H.mono ?_
  rintro e w' ⟨rfl, rfl⟩
  go_wp2
  go_ret
  exact ⟨rfl, rfl⟩



theorem more_zero (h : Nat) : more h ⟨#[0]⟩ = stp h 0 := by
  rw [more_eq]
  show hsh h [0] = _
  rw [hsh_cons, hsh_nil]

theorem flow_ok (s t : ByteArray) (hs : s.size ≤ 9223372036854775807) (ht : t.size ≤ 9223372036854775807) (w : World) :
    Calls Tryz.prog 51 #[.string s, .string t] w fun e w' => e = .returned (.int .u64 (flow s t : Nat)) ∧ w' = w := by
  go_enter Tryz.func51, Tryz.ntmps51
  go_wp2_with fail
  go_at_call 18
  refine (sum_ok s hs w).mono ?_
  rintro e w' ⟨rfl, hw⟩; obtain rfl := hw.symm
  go_wp2_with fail
  go_at_call 46
  refine (more_ok (sum s) ⟨#[0]⟩ (sum_lt s) (by decide) _).mono ?_
  rintro e w' ⟨rfl, hw⟩; obtain rfl := hw.symm
  rw [more_zero]
  go_wp2_with fail
  go_at_call 46
  have H := more_ok (stp (sum s) 0) t (stp_lt _ _) ht w
  rw [← flow_eq] at H
  refine H.mono ?_
  rintro e w' ⟨rfl, hw⟩; obtain rfl := hw.symm
  go_wp2
  go_ret
  exact ⟨rfl, rfl⟩
end Go.Proofs.YtijjpblmnlednaaGreatDoor.Fn
