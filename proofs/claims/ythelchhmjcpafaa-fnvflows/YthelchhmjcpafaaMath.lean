/-
  The hash as plain mathematics: over Nat, byte by byte; the prime has an inverse.
-/
import Derived.Test.YthelchhmjcpafaaRows
import Derived.WalkKit
namespace Go.Proofs.Ythelchhmjcpafaa

/-- One byte's step. -/
def stp (h : Nat) (b : UInt8) : Nat := (h ^^^ b.toNat) * 1099511628211 % 18446744073709551616
/-- The hash of a list of bytes, begun with h. -/
def hsh (h : Nat) (l : List UInt8) : Nat := l.foldl stp h

theorem stp_lt (h : Nat) (b : UInt8) : stp h b < 18446744073709551616 := by unfold stp; omega

theorem hsh_nil (h : Nat) : hsh h [] = h := rfl
theorem hsh_app (h : Nat) (l m : List UInt8) : hsh h (l ++ m) = hsh (hsh h l) m := by unfold hsh; rw [List.foldl_append]
theorem hsh_cons (h : Nat) (b : UInt8) (l : List UInt8) : hsh h (b :: l) = hsh (stp h b) l := by unfold hsh; rw [List.foldl_cons]
theorem hsh_snoc (h : Nat) (l : List UInt8) (b : UInt8) : hsh h (l ++ [b]) = stp (hsh h l) b := by rw [hsh_app, hsh_cons, hsh_nil]

theorem hsh_lt (l : List UInt8) : ∀ (h : Nat), h < 18446744073709551616 → hsh h l < 18446744073709551616 := by
  induction l with
  | nil => intro h hh; rw [hsh_nil]; exact hh
  | cons b l ih => intro h _; rw [hsh_cons]; exact ih _ (stp_lt h b)

theorem xor_byte_lt (h : Nat) (b : UInt8) (hh : h < 18446744073709551616) : h ^^^ b.toNat < 18446744073709551616 := by
  have e : (18446744073709551616 : Nat) = 2 ^ 64 := by decide
  have hb : b.toNat < 256 := b.toNat_lt
  rw [e] at hh ⊢
  exact Nat.xor_lt_two_pow hh (by omega)

theorem back_of (a : Nat) (ha : a < 18446744073709551616) : a * 1099511628211 % 18446744073709551616 * 14886173955864302971 % 18446744073709551616 = a := by omega

theorem mul_inj {a b : Nat} (ha : a < 18446744073709551616) (hb : b < 18446744073709551616) (h : a * 1099511628211 % 18446744073709551616 = b * 1099511628211 % 18446744073709551616) : a = b := by
  rw [← back_of a ha, ← back_of b hb, h]

theorem stp_inj {h k : Nat} {b c : UInt8} (hh : h < 18446744073709551616) (hk : k < 18446744073709551616) (he : stp h b = stp k c) : h ^^^ b.toNat = k ^^^ c.toNat :=
  mul_inj (xor_byte_lt h b hh) (xor_byte_lt k c hk) he

theorem xor_left {a b c : Nat} (h : a ^^^ b = a ^^^ c) : b = c := by
  have := congrArg (fun x => a ^^^ x) h
  simpa [← Nat.xor_assoc] using this

/-- From two other beginnings one text leads to two other hashes. -/
theorem hsh_inj (l : List UInt8) : ∀ (g h : Nat), g < 18446744073709551616 → h < 18446744073709551616 → hsh g l = hsh h l → g = h := by
  induction l with
  | nil => intro g h _ _ he; rw [hsh_nil, hsh_nil] at he; exact he
  | cons b l ih =>
    intro g h hg hh he
    rw [hsh_cons, hsh_cons] at he
    have h1 := stp_inj hg hh (ih _ _ (stp_lt g b) (stp_lt h b) he)
    rw [Nat.xor_comm g, Nat.xor_comm h] at h1
    exact xor_left h1

/-- Only the last byte is another. -/
theorem last_inj {h : Nat} {a b : UInt8} (hh : h < 18446744073709551616) (he : stp h a = stp h b) : a = b :=
  UInt8.toNat_inj.1 (xor_left (stp_inj hh hh he))

def start : Nat := 14695981039346656037
theorem start_lt : start < 18446744073709551616 := by unfold start; omega
/-- The hash of a text, begun with h. -/
def more (h : Nat) (s : ByteArray) : Nat := hsh h s.data.toList
def sum (s : ByteArray) : Nat := more start s
def flow (s t : ByteArray) : Nat := more (stp (sum s) 0) t
theorem more_eq (h : Nat) (s : ByteArray) : more h s = hsh h s.data.toList := rfl
theorem sum_eq (s : ByteArray) : sum s = more start s := rfl
theorem flow_eq (s t : ByteArray) : flow s t = more (stp (sum s) 0) t := rfl
theorem more_lt {h : Nat} (hh : h < 18446744073709551616) (s : ByteArray) : more h s < 18446744073709551616 := hsh_lt _ _ hh
theorem sum_lt (s : ByteArray) : sum s < 18446744073709551616 := more_lt start_lt s
theorem flow_lt (s t : ByteArray) : flow s t < 18446744073709551616 := more_lt (stp_lt _ _) t
end Go.Proofs.Ythelchhmjcpafaa
