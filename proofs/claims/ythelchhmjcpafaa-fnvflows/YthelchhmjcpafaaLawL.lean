/-
  'FnvLast': the walk. No condition.
-/
import Derived.Test.YthelchhmjcpafaaLawA
import Derived.Deep.RegionWith
import Derived.Laws.IdiomStrings
import Derived.Laws.Concat
namespace Go.Proofs.Ythelchhmjcpafaa
open Go.RowKit

theorem byte_of {a : Int} (h : (Lit.int .u8 a).wf = true) : ∃ b : UInt8, a = b.toNat := by
  simp [Lit.wf, IntKind.min, IntKind.max, IntKind.bits, IntKind.signed] at h
  refine ⟨UInt8.ofNat a.toNat, ?_⟩
  rw [UInt8.toNat_ofNat']
  omega

/-- A text of one byte. -/
def one (x : UInt8) : ByteArray := ⟨#[x]⟩
theorem one_size (x : UInt8) : (one x).size = 1 := rfl

theorem conv_one (x : UInt8) (v : World) (g : Nat) (h : v.cell? ⟨g, 0, none⟩ = some (.int .u8 (x.toNat : Int))) : (convert 29 9 (.slice (some ⟨g, 0, none⟩) 1 1)).run Try.prog v = .ok (.string (one x)) v :=
  run_convert_bytes_back v 29 9 5 ⟨g, 0, none⟩ 1 [x] Try.underlying29 Try.underlying5 Try.underlying9 (fun j hj => by
    obtain rfl : j = 0 := by simp at hj; omega
    exact h)

theorem add_one (s : ByteArray) (hs : s.size ≤ 65536) (x : UInt8) (v : World) : (Op.stringOp .add s (one x)).run Try.prog v = .ok (.string (s ++ one x)) v :=
  run_string_add_sum v _ _ (by rw [one_size]; omega)

theorem data_one (s : ByteArray) (x : UInt8) : (s ++ one x).data.toList = s.data.toList ++ [x] := by
  rw [ByteArray.data_append, Array.toList_append]
  rfl

theorem more_snoc (h : Nat) (s : ByteArray) (x : UInt8) : more h (s ++ one x) = stp (more h s) x := by
  rw [more_eq, data_one, hsh_snoc, ← more_eq]

theorem sum_snoc (s : ByteArray) (hs : s.size ≤ 65536) (x : UInt8) (v : World) :
    Calls Try.prog 9 #[.string (s ++ one x)] v fun e w' => e = .returned (.int .u64 (stp (sum s) x : Nat)) ∧ w' = v := by
  have H := sum_ok (s ++ one x) (by rw [ByteArray.size_append', one_size]; omega) v
  rw [sum_eq, more_snoc, ← sum_eq] at H
  exact H

theorem same_last {h : Nat} (hh : h < 18446744073709551616) (a b : UInt8) : (((a.toNat : Int) == (b.toNat : Int)) == (((stp h a : Nat) : Int) == ((stp h b : Nat) : Int))) = true := by
  by_cases c : a = b
  · subst c
    simp
  · have c1 : ¬ a.toNat = b.toNat := fun e => c (UInt8.toNat_inj.1 e)
    have c2 : ¬ stp h a = stp h b := fun e => c (last_inj hh e)
    have e1 : ((a.toNat : Int) == (b.toNat : Int)) = false := by simp; omega
    have e2 : (((stp h a : Nat) : Int) == ((stp h b : Nat) : Int)) = false := by simp; omega
    rw [e1, e2]
    rfl

theorem below_two (w : World) (o o' : Obj) : Below w.heap.size w ((w.alloc o).alloc o').drew :=
  have b := (Below.refl w.heap.size w).alloc (Nat.le_refl _) o
  (b.alloc b.size o').drew

set_option maxHeartbeats 4000000 in
theorem last_ok (s : ByteArray) (a b : Int) (w : World) (hs : s.size ≤ maxLen) (ha : (Lit.int .u8 a).wf = true) (hb : (Lit.int .u8 b).wf = true) :
    Calls Try.prog 5 #[.string s, .int .u8 a, .int .u8 b] w fun e w' => e = .returned (.bool true) ∧ Below w.heap.size w w' := by
  have hm : s.size ≤ 9223372036854775807 := by simp only [maxLen] at hs; omega
  obtain ⟨a, rfl⟩ := byte_of ha
  obtain ⟨b, rfl⟩ := byte_of hb
  clear ha hb
  go_enter Try.func5, Try.ntmps5
  go_wp2_with fail
  go_at_call 8
  refine (awake_ok w).mono ?_
  rintro e w' ⟨rfl, hw⟩; obtain rfl := hw.symm
  by_cases c1 : (65536 : Int) < s.size
  · go_wp2
    go_ret
    exact ⟨rfl, Below.refl _ _⟩
  · go_wp2_with fail
    have CA := conv_one a
    have CB := conv_one b
    have SA := add_one s (by omega) a
    have SB := add_one s (by omega) b
    have KA := sum_snoc s (by omega) a
    have KB := sum_snoc s (by omega) b
    go_region_with ((go_at_call 9; first | with_reducible refine (KA _).mono ?_ | with_reducible refine (KB _).mono ?_) <;> rintro e w' ⟨rfl, rfl⟩)
    all_goals clear KA KB
    all_goals go_wp2
    all_goals go_ret
    all_goals exact ⟨congrArg (fun x => Ending.returned (Value.bool x)) (same_last (sum_lt s) a b), below_two _ _ _⟩
end Go.Proofs.Ythelchhmjcpafaa
