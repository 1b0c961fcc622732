/-
  'FnvPieces': the walk. No condition.
-/
import Derived.Test.YthelchhmjcpafaaWalkA
import Derived.Below
import Derived.Deep.QuietTactic
namespace Go.Proofs.Ythelchhmjcpafaa
open Go.RowKit

theorem more_nil (h : Nat) : more h ⟨#[]⟩ = h := by rw [more_eq]; exact hsh_nil h

theorem more_cut (h n : Nat) (s : ByteArray) : more (more h (s.extract 0 n)) (s.extract n s.size) = more h s := by
  obtain ⟨⟨l⟩⟩ := s
  have hsz : (ByteArray.mk ⟨l⟩).size = l.length := rfl
  rw [ByteArray.extract_mk, ByteArray.extract_mk, hsz, more_eq, more_eq, more_eq]
  show hsh (hsh h ((l.drop 0).take (n - 0))) ((l.drop n).take (l.length - n)) = hsh h l
  rw [← hsh_app, List.drop_zero, Nat.sub_zero, List.take_of_length_le (l := l.drop n) (by rw [List.length_drop]; exact Nat.le_refl _), List.take_append_drop]

theorem extract_le (s : ByteArray) (a b : Nat) : (s.extract a b).size ≤ s.size := by
  rw [ByteArray.size_extract]; omega

theorem pieces_ok (s : ByteArray) (i : Int) (w : World) (hs : s.size ≤ maxLen) :
    Calls Try.prog 4 #[.string s, .int .i64 i] w fun e w' => e = .returned (.bool true) ∧ Below w.heap.size w w' := by
  have hm : s.size ≤ 9223372036854775807 := by simp only [maxLen] at hs; omega
  go_enter Try.func4, Try.ntmps4
  go_wp2_with fail
  go_at_call 8
  refine (awake_ok w).mono ?_
  rintro e w' ⟨rfl, hw⟩; obtain rfl := hw.symm
  by_cases c : (s.size : Int) ≤ 65536 ∧ 0 ≤ i ∧ i ≤ s.size
  · obtain ⟨n, rfl⟩ : ∃ n : Nat, i = n := ⟨i.toNat, by omega⟩
    have A : ∀ v : World, Calls Try.prog 9 #[.string (s.extract 0 n)] v fun e w' => e = .returned (.int .u64 (sum (s.extract 0 n) : Nat)) ∧ w' = v := fun v => sum_ok _ (Nat.le_trans (extract_le s 0 n) hm) v
    have B : ∀ v : World, Calls Try.prog 11 #[.int .u64 (sum (s.extract 0 n) : Nat), .string (s.extract n s.size)] v fun e w' => e = .returned (.int .u64 (sum s : Nat)) ∧ w' = v := fun v => by
      have := more_ok (sum (s.extract 0 n)) (s.extract n s.size) (sum_lt _) (Nat.le_trans (extract_le s _ _) hm) v
      rw [sum_eq, more_cut, ← sum_eq, ← sum_eq] at this
      exact this
    have C : ∀ v : World, Calls Try.prog 9 #[.string s] v fun e w' => e = .returned (.int .u64 (sum s : Nat)) ∧ w' = v := fun v => sum_ok s hm v
    have D : ∀ v : World, Calls Try.prog 11 #[.int .u64 (sum s : Nat), .string ⟨#[]⟩] v fun e w' => e = .returned (.int .u64 (sum s : Nat)) ∧ w' = v := fun v => by
      have := more_ok (sum s) ⟨#[]⟩ (sum_lt s) (by decide) v
      rw [more_nil] at this
      exact this
    obtain ⟨c1, c2, c3⟩ := c
    go_wp2_with fail
    go_quiet ((first
      | (go_at_call 9; with_reducible exact Calls.quiet_of_same (A _))
      | (go_at_call 9; with_reducible exact Calls.quiet_of_same (C _))
      | (go_at_call 11; with_reducible exact Calls.quiet_of_same (B _))
      | (go_at_call 11; with_reducible exact Calls.quiet_of_same (D _))))
    go_wp2
    go_ret
    exact ⟨rfl, rfl, rfl, rfl, Nat.le_refl _, fun _ _ => rfl⟩
  · by_cases c1 : (65536 : Int) < s.size
    · go_wp2
      go_ret
      exact ⟨rfl, Below.refl _ _⟩
    · by_cases c2 : i < 0
      · go_wp2
        go_ret
        exact ⟨rfl, Below.refl _ _⟩
      · have c3 : (s.size : Int) < i := by omega
        go_wp2
        go_ret
        exact ⟨rfl, Below.refl _ _⟩
end Go.Proofs.Ythelchhmjcpafaa
