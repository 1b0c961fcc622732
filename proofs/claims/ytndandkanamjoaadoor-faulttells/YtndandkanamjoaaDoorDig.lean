/-
  Numbers in digits: what strconv.Itoa and the reference's 'Digits' answer. Condition of strconv.Itoa: the library's table of powers lies in memory.
-/
import Derived.Test.YtndandkanamjoaaDoorLawC
import Derived.Test.YtndandkanamjoaaDoorShelf
import Derived.Lib.ItoaNum
import Derived.Lib.SmallJoins
import Derived.Lib.AppendIntMem
import Derived.Lib.LaidU8
namespace Go.Proofs.YtndandkanamjoaaDoor
open Go.RowKit Go.Lib Go.Shelf

def mk (l : List UInt8) : ByteArray := ⟨l.toArray⟩
theorem mk_list (l : List UInt8) : (mk l).data.toList = l := by simp [mk]
theorem mk_of (s : ByteArray) : mk s.data.toList = s := by unfold mk; simp
theorem list_inj {a b : ByteArray} (h : a.data.toList = b.data.toList) : a = b := by rw [← mk_of a, h, mk_of]
theorem size_list (s : ByteArray) : s.data.toList.length = s.size := Array.length_toList
theorem cat_list (a b : ByteArray) : (a ++ b).data.toList = a.data.toList ++ b.data.toList := by simp
theorem add_at (g j : Nat) : (⟨g, 0, none⟩ : Addr).add j = ⟨g, j, none⟩ := by unfold Addr.add; split <;> simp_all
theorem dec_small {n : Nat} (h : n < 10) : decDigits n = [UInt8.ofNat (48 + n)] := by rw [decDigits, dif_pos h]
theorem dec_big {n : Nat} (h : ¬ n < 10) : decDigits n = decDigits (n / 10) ++ [UInt8.ofNat (48 + n % 10)] := by rw [decDigits, dif_neg h]
theorem byte_of {n : Nat} (h : n < 10) : (UInt8.ofNat (48 + n)).toNat = 48 + n := by simp; omega
theorem dec_ind {motive : Nat → Prop} (h1 : ∀ n, n < 10 → motive n) (h2 : ∀ n, ¬ n < 10 → motive (n / 10) → motive n) : ∀ n, motive n := by
  intro n
  induction n using Nat.strongRecOn with
  | ind n ih =>
    by_cases h : n < 10
    · exact h1 n h
    · exact h2 n h (ih (n / 10) (by omega))

theorem dec_len : ∀ n k, 1 ≤ k → n < 10 ^ k → (decDigits n).length ≤ k := by
  apply dec_ind (motive := fun n => ∀ k, 1 ≤ k → n < 10 ^ k → (decDigits n).length ≤ k)
  · intro n h k hk _
    rw [dec_small h]
    simpa using hk
  · intro n h ih k hk hn
    rw [dec_big h, List.length_append]
    have h2 : 2 ≤ k := by
      rcases (by omega : k = 1 ∨ 2 ≤ k) with rfl | h2
      · omega
      · exact h2
    obtain ⟨j, rfl⟩ : ∃ j, k = j + 1 := ⟨k - 1, by omega⟩
    have := ih j (by omega) (by rw [Nat.pow_succ] at hn; omega)
    simp
    omega

/-- The name of the table of powers: the third that the row lists. -/
def powName : String := match Rows.faultTellsRow.laid with
  | [_, _, x, _] => x.1
  | _ => Rows.faultTellsRow.func
def Tab (w : World) : Prop := TabIs Tryd.prog w powName .u64 pow10Tab
theorem Tab.stays {w w' : World} (h : Tab w) (hb : Below w.heap.size w w') : Tab w' := Go.Joins.tab_stays (g := 1) (by kernel_rfl) h hb (Nat.le_refl _)

def digB (n : Int) : ByteArray := mk (decDigits (max n 0).toNat)
/-- 'string([]byte{b})'. -/
theorem conv_one (w : World) (b : UInt8) (z : Int) (hz : z = (b.toNat : Int)) : (convert 61 9 (.slice (some ⟨w.heap.size, 0, none⟩) 1 1)).run Tryd.prog (w.alloc (.cells #[.int .u8 z] 5)) = .ok (.string (mk [b])) (w.alloc (.cells #[.int .u8 z] 5)) := by
  have h := run_convert_bytes_back (P := Tryd.prog) (w.alloc (.cells #[.int .u8 z] 5)) 61 9 5 ⟨w.heap.size, 0, none⟩ 1 [b] Tryd.underlying61 Tryd.underlying5 Tryd.underlying9 (fun j hj => by
    obtain rfl : j = 0 := by simp at hj; omega
    rw [add_at]
    simp [hz])
  exact h

theorem mk_size1 (b : UInt8) : (mk [b]).size = 1 := by rw [← size_list, mk_list]; rfl
theorem dec19 {N : Nat} (h : N ≤ 9223372036854775807) : (decDigits N).length ≤ 19 := dec_len N 19 (by decide) (by omega)


theorem digB_size (n : Int) (h : n ≤ 9223372036854775807) : (digB n).size ≤ 19 := by
  unfold digB
  rw [← size_list, mk_list]
  exact dec19 (by omega)

theorem itoa_ok (n : Int) (h0 : 0 ≤ n) (h1 : n ≤ 9223372036854775807) (w : World) (hT : Tab w) :
    Calls Tryd.prog 31 #[.int .i64 n] w fun e w' => e = .returned (.string (digB n)) ∧ Below w.heap.size w w' := by
  have I := Any.strconv_Itoa Tryd.laysItoa n (by omega) (by omega) w hT
  have e : itoa n = decDigits (max n 0).toNat := by unfold itoa; rw [if_neg (by omega)]; congr 1; omega
  rw [e] at I
  exact Calls.mono I fun e w' ⟨he, k, os, hw⟩ => ⟨he, by rw [hw]; exact Lib.below_grow _ w (Nat.le_refl _) k os⟩

set_option maxRecDepth 20000 in
theorem rdigits_ok (n : Int) (w : World) (h1 : n ≤ 9223372036854775807) :
    Calls Tryd.prog 20 #[.int .i64 n] w fun e w' => e = .returned (.string (digB n)) ∧ Below w.heap.size w w' := by
  obtain ⟨N, hN⟩ : ∃ N : Nat, (N : Int) = max n 0 := ⟨(max n 0).toNat, by omega⟩
  have e : digB n = mk (decDigits N) := by unfold digB; congr 2; omega
  rw [e]
  have hN1 : N ≤ 9223372036854775807 := by omega
  have HL := dec19 hN1
  clear e
  by_cases hneg : n < 0
  · have hN0 : N = 0 := by omega
    clear hN
    subst hN0
    go_enter Tryd.func20, Tryd.ntmps20
    go_wp2_with fail
    go_loopw [0, 3] (fun x s3 wr => ∃ (k : Nat) (S : ByteArray), x = .int .i64 k ∧ s3 = .string S ∧ k ≤ 9223372036854775807 ∧ Hd (decDigits 0 = decDigits k ++ S.data.toList) ∧ Below w.heap.size w wr) (fun x _ _ => (RowKit.intOf x).toNat)
    case atStart => exact ⟨0, ⟨#[]⟩, rfl, rfl, hN1, ⟨by show _ = _ ++ []; rw [List.append_nil]⟩, Below.refl _ _⟩
    case round =>
      obtain ⟨k, S, rfl, rfl, hk, hS, p3⟩ := hrel
      have hsz : S.size ≤ 19 := by
        have := congrArg List.length hS.out
        rw [List.length_append, size_list] at this
        omega
      by_cases h9 : 9 < k
      · have e1 : (k : Int).tmod 10 = ((k % 10 : Nat) : Int) := (Int.ofNat_tmod _ _).symm
        have e2 : (k : Int).tdiv 10 = ((k / 10 : Nat) : Int) := (Int.ofNat_tdiv _ _).symm
        have ht : k % 10 < 10 := Nat.mod_lt _ (by decide)
        have CV := conv_one wr (UInt8.ofNat (48 + k % 10)) (48 + ((k % 10 : Nat) : Int)) (by rw [byte_of ht]; omega)
        have hS' : Hd (decDigits 0 = decDigits (k / 10) ++ (mk [UInt8.ofNat (48 + k % 10)] ++ S).data.toList) := ⟨by rw [hS.out, dec_big (by omega), cat_list, mk_list, List.append_assoc]⟩
        have hlt : k / 10 < k := by omega
        have P4 : Hd (Below w.heap.size w (wr.alloc (.cells #[.int .u8 (48 + ((k % 10 : Nat) : Int))] 5))) := ⟨p3.alloc p3.size _⟩
        have hx1 : (mk [UInt8.ofNat (48 + k % 10)]).size = 1 := mk_size1 _
        clear hS p3
        generalize mk [UInt8.ofNat (48 + k % 10)] = x at *
        generalize k % 10 = t at *
        generalize k / 10 = u at *
        go_wp2_with fail
        go_roundw
        case rel => exact ⟨u, x ++ S, rfl, rfl, by omega, hS', P4.out⟩
        case measure => simp [RowKit.intOf]; omega
      · have CV := conv_one wr (UInt8.ofNat (48 + k)) (48 + (k : Int)) (by rw [byte_of (by omega)]; omega)
        have hS' : Hd (mk (decDigits 0) = mk [UInt8.ofNat (48 + k)] ++ S) := ⟨list_inj (by rw [mk_list, hS.out, dec_small (by omega), cat_list, mk_list])⟩
        have P4 : Hd (Below w.heap.size w (wr.alloc (.cells #[.int .u8 (48 + (k : Int))] 5))) := ⟨p3.alloc p3.size _⟩
        have hx1 : (mk [UInt8.ofNat (48 + k)]).size = 1 := mk_size1 _
        clear hS p3
        generalize mk [UInt8.ofNat (48 + k)] = x at *
        go_wp2_with fail
        go_ret
        exact ⟨by rw [hS'.out]; rfl, P4.out⟩
  · obtain rfl : n = (N : Int) := by omega
    clear hN
    go_enter Tryd.func20, Tryd.ntmps20
    go_wp2_with fail
    go_loopw [0, 3] (fun x s3 wr => ∃ (k : Nat) (S : ByteArray), x = .int .i64 k ∧ s3 = .string S ∧ k ≤ 9223372036854775807 ∧ Hd (decDigits N = decDigits k ++ S.data.toList) ∧ Below w.heap.size w wr) (fun x _ _ => (RowKit.intOf x).toNat)
    case atStart => exact ⟨N, ⟨#[]⟩, rfl, rfl, hN1, ⟨by show _ = _ ++ []; rw [List.append_nil]⟩, Below.refl _ _⟩
    case round =>
      obtain ⟨k, S, rfl, rfl, hk, hS, p3⟩ := hrel
      have hsz : S.size ≤ 19 := by
        have := congrArg List.length hS.out
        rw [List.length_append, size_list] at this
        omega
      by_cases h9 : 9 < k
      · have e1 : (k : Int).tmod 10 = ((k % 10 : Nat) : Int) := (Int.ofNat_tmod _ _).symm
        have e2 : (k : Int).tdiv 10 = ((k / 10 : Nat) : Int) := (Int.ofNat_tdiv _ _).symm
        have ht : k % 10 < 10 := Nat.mod_lt _ (by decide)
        have CV := conv_one wr (UInt8.ofNat (48 + k % 10)) (48 + ((k % 10 : Nat) : Int)) (by rw [byte_of ht]; omega)
        have hS' : Hd (decDigits N = decDigits (k / 10) ++ (mk [UInt8.ofNat (48 + k % 10)] ++ S).data.toList) := ⟨by rw [hS.out, dec_big (by omega), cat_list, mk_list, List.append_assoc]⟩
        have hlt : k / 10 < k := by omega
        have P4 : Hd (Below w.heap.size w (wr.alloc (.cells #[.int .u8 (48 + ((k % 10 : Nat) : Int))] 5))) := ⟨p3.alloc p3.size _⟩
        have hx1 : (mk [UInt8.ofNat (48 + k % 10)]).size = 1 := mk_size1 _
        clear hS p3
        generalize mk [UInt8.ofNat (48 + k % 10)] = x at *
        generalize k % 10 = t at *
        generalize k / 10 = u at *
        go_wp2_with fail
        go_roundw
        case rel => exact ⟨u, x ++ S, rfl, rfl, by omega, hS', P4.out⟩
        case measure => simp [RowKit.intOf]; omega
      · have CV := conv_one wr (UInt8.ofNat (48 + k)) (48 + (k : Int)) (by rw [byte_of (by omega)]; omega)
        have hS' : Hd (mk (decDigits N) = mk [UInt8.ofNat (48 + k)] ++ S) := ⟨list_inj (by rw [mk_list, hS.out, dec_small (by omega), cat_list, mk_list])⟩
        have P4 : Hd (Below w.heap.size w (wr.alloc (.cells #[.int .u8 (48 + (k : Int))] 5))) := ⟨p3.alloc p3.size _⟩
        have hx1 : (mk [UInt8.ofNat (48 + k)]).size = 1 := mk_size1 _
        clear hS p3
        generalize mk [UInt8.ofNat (48 + k)] = x at *
        go_wp2_with fail
        go_ret
        exact ⟨by rw [hS'.out]; rfl, P4.out⟩


end Go.Proofs.YtndandkanamjoaaDoor
