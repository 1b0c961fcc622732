/-
  What 'Unhex' and 'Digits' of the program answer. Condition of 'Digits': the library's table of powers lies in memory.
-/
import Derived.Test.YtaedgkaldafbbaaDoorMathD
import Derived.Test.YtaedgkaldafbbaaDoorShelf
import Derived.Lib.SmallJoins
import Derived.Lib.AppendIntMem
namespace Go.Proofs.YtaedgkaldafbbaaDoor
open Go.RowKit Go.Lib Go.Shelf

theorem idx_ok (b : UInt8) (w : World) : Calls Tryd.prog 37 #[.string ⟨#[48, 49, 50, 51, 52, 53, 54, 55, 56, 57, 97, 98, 99, 100, 101, 102]⟩, .int .u8 (b.toNat : Int)] w fun e w' => e = .returned (.int .i64 (if isHexI (b.toNat : Int) then (hexVal b.toNat : Int) else -1)) ∧ w' = w := by
  have h := Any.strings_IndexByte Tryd.laysIndexByte ⟨#[48, 49, 50, 51, 52, 53, 54, 55, 56, 57, 97, 98, 99, 100, 101, 102]⟩ (b.toNat : Int) w
  have e : ((b.toNat : Int).toNat.toUInt8) = b := by rw [Int.toNat_natCast]; exact UInt8.ofNat_toNat
  rw [e] at h
  have e2 : indexByte (⟨#[48, 49, 50, 51, 52, 53, 54, 55, 56, 57, 97, 98, 99, 100, 101, 102]⟩ : ByteArray).data.toList b = _ := idx_hex b
  rw [e2] at h
  exact h

theorem unhex_ok (s : ByteArray) (w : World) :
    Calls Tryd.prog 17 #[.string s] w fun e w' => e = .returned (.tuple #[.int .u64 (unOf s : Nat), .bool (unOk s)]) ∧ w' = w := by
  by_cases h16 : s.size = 16
  · have RN : Hd ((allB isHexI s = false → unOf s = 0 ∧ unOk s = false) ∧ (allB isHexI s = true → unOf s = uhTo s s.size ∧ unOk s = true)) := ⟨by
      refine ⟨fun h => ?_, fun h => ?_⟩
      · unfold unOf unOk
        rw [h, Bool.and_false]
        exact ⟨rfl, rfl⟩
      · have e : unOk s = true := by unfold unOk; rw [h, h16]; rfl
        refine ⟨?_, e⟩
        unfold unOf
        rw [if_pos e, uhTo_all]⟩
    have HP : Hd (∀ k : Nat, k ≤ 15 → 16 ^ k ≤ 16 ^ 15) := ⟨fun k hk => Nat.pow_le_pow_right (by decide) hk⟩
    go_enter Tryd.func17, Tryd.ntmps17
    go_wp2_with fail
    go_loop [4, 12] (fun x i => ∃ k v : Nat, k ≤ s.size ∧ i = .int .i64 k ∧ x = .int .u64 v ∧ Hd (v = uhTo s k ∧ ∀ j (h : j < s.size), j < k → isHexI (s[j].toNat : Int) = true)) (fun _ i => s.size - (intOf i).toNat)
    case atStart => exact ⟨0, 0, Nat.zero_le _, rfl, rfl, ⟨(uhTo_zero s).symm, fun j _ h => absurd h (Nat.not_lt_zero _)⟩⟩
    case round =>
      obtain ⟨k, v, hk, rfl, rfl, hv⟩ := hrel
      by_cases hlt : k < s.size
      · have I := idx_ok s[k]
        cases hx : isHexI (s[k].toNat : Int) with
        | false =>
          rw [hx, if_neg (by decide)] at I
          have hA := allB_no k hlt hx
          have R := RN.out.1 hA
          have R' : Hd (_ ∧ _) := ⟨R⟩
          clear R RN hA hv
          go_wp2_with (go_at_call 37; refine (I _).mono ?_; rintro e w' ⟨rfl, hw⟩; obtain rfl := hw.symm)
          go_ret2
          exact ⟨by rw [R'.out.1, R'.out.2]; rfl, rfl⟩
        | true =>
          rw [hx, if_pos rfl] at I
          have hb := hexVal_lt hx
          have hvl : v < 16 ^ 15 := by
            rw [hv.out.1]
            exact Nat.lt_of_lt_of_le (uhTo_lt s k hk hv.out.2) (HP.out k (by omega))
          have e15 : (16 : Nat) ^ 15 = 1152921504606846976 := by decide
          rw [e15] at hvl
          have hv' : Hd (v * 16 + hexVal s[k].toNat = uhTo s (k + 1) ∧ ∀ j (h : j < s.size), j < k + 1 → isHexI (s[j].toNat : Int) = true) := ⟨by rw [uhTo_succ s k hlt, ← hv.out.1], fun j h hj => by
            by_cases e : j = k
            · subst e; exact hx
            · exact hv.out.2 j h (by omega)⟩
          clear RN hv hx e15
          generalize hexVal s[k].toNat = d at *
          go_wp2_with (go_at_call 37; refine (I _).mono ?_; rintro e w' ⟨rfl, hw⟩; obtain rfl := hw.symm)
          go_round
          case rel => exact ⟨k + 1, v * 16 + d, by omega, by go_num, by congr 1, hv'⟩
          case measure => simp [intOf]; omega
      · obtain rfl : k = s.size := by omega
        have hA : allB isHexI s = true := (allB_iff _ _).2 fun j h => hv.out.2 j h h
        have R' : Hd (unOf s = v ∧ unOk s = true) := ⟨by rw [hv.out.1]; exact RN.out.2 hA⟩
        clear RN hA hv
        go_wp2
        go_ret2
        exact ⟨by rw [R'.out.1, R'.out.2]; rfl, rfl⟩
  · have e1 : unOk s = false := by unfold unOk; rw [show decide (s.size = 16) = false by simpa using h16]; rfl
    have e2 : unOf s = 0 := by unfold unOf; rw [e1]; rfl
    rw [e1, e2]
    go_enter Tryd.func17, Tryd.ntmps17
    go_wp2_with fail
    go_ret2
    exact ⟨rfl, rfl⟩

/-- The name of the table of powers: the third that the row lists. -/
def powName : String := match Rows.wordsNumbersRow.laid with
  | [_, _, x, _, _] => x.1
  | _ => Rows.wordsNumbersRow.func
def Tab (w : World) : Prop := TabIs Tryd.prog w powName .u64 pow10Tab
theorem Tab.stays {w w' : World} (h : Tab w) (hb : Below w.heap.size w w') : Tab w' := Go.Joins.tab_stays (g := 1) (by kernel_rfl) h hb (Nat.le_refl _)

def digB (n : Int) : ByteArray := mk (decDigits (max n 0).toNat)

theorem digits_ok (n : Int) (h0 : -9223372036854775808 ≤ n) (h1 : n ≤ 9223372036854775807) (w : World) (hT : Tab w) :
    Calls Tryd.prog 19 #[.int .i64 n] w fun e w' => e = .returned (.string (digB n)) ∧ Below w.heap.size w w' := by
  have I := Any.strconv_Itoa Tryd.laysItoa (max n 0) (by omega) (by omega) w hT
  have e : itoa (max n 0) = decDigits (max n 0).toNat := by unfold itoa; rw [if_neg (by omega)]
  rw [e] at I
  have I' : Calls Tryd.prog 38 #[.int .i64 (max n 0)] w fun e w' => e = .returned (.string (digB n)) ∧ Below w.heap.size w w' :=
    Calls.mono I fun e w' ⟨he, k, os, hw⟩ => ⟨he, by rw [hw]; exact Lib.below_grow _ w (Nat.le_refl _) k os⟩
  clear I hT
  go_enter Tryd.func19, Tryd.ntmps19
  go_wp2_with (go_at_call 38; go_loud (refine I'.mono ?_; rintro e w' ⟨rfl, hb⟩))
  go_ret
  exact ⟨rfl, hb⟩

end Go.Proofs.YtaedgkaldafbbaaDoor
