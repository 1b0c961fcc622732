/-
  What 'Digits', 'Hex', 'Unhex', 'Number' of the reference answer. No condition.
-/
import Derived.Test.YtaodckojinbdfaaDoorDec
namespace Go.Proofs.YtaodckojinbdfaaDoor
open Go.RowKit Go.Lib

/-- 'string([]byte{b})'. -/
theorem conv_one (w : World) (b : UInt8) (z : Int) (hz : z = (b.toNat : Int)) : (convert 22 9 (.slice (some ⟨w.heap.size, 0, none⟩) 1 1)).run Tryd.prog (w.alloc (.cells #[.int .u8 z] 5)) = .ok (.string (mk [b])) (w.alloc (.cells #[.int .u8 z] 5)) := by
  have h := run_convert_bytes_back (P := Tryd.prog) (w.alloc (.cells #[.int .u8 z] 5)) 22 9 5 ⟨w.heap.size, 0, none⟩ 1 [b] Tryd.underlying22 Tryd.underlying5 Tryd.underlying9 (fun j hj => by
    obtain rfl : j = 0 := by simp at hj; omega
    rw [add_at]
    simp [hz])
  exact h

theorem mk_size1 (b : UInt8) : (mk [b]).size = 1 := by rw [← size_list, mk_list]; rfl
theorem dec19 {N : Nat} (h : N ≤ 9223372036854775807) : (decDigits N).length ≤ 19 := dec_len N 19 (by decide) (by omega)

set_option maxRecDepth 20000 in
theorem rdigits_ok (n : Int) (w : World) (h1 : n ≤ 9223372036854775807) :
    Calls Tryd.prog 13 #[.int .i64 n] w fun e w' => e = .returned (.string (digB n)) ∧ Below w.heap.size w w' := by
  obtain ⟨N, hN⟩ : ∃ N : Nat, (N : Int) = max n 0 := ⟨(max n 0).toNat, by omega⟩
  have e : digB n = mk (decDigits N) := by unfold digB; congr 2; omega
  rw [e]
  have hN1 : N ≤ 9223372036854775807 := by omega
  have HL := dec19 hN1
  clear e
  by_cases hneg : n < 0
  · have hN0 : N = 0 := by omega
    clear hN
    subst hN0
    go_enter Tryd.func13, Tryd.ntmps13
    go_wp2_with fail
    go_loopw [0, 3] (fun x s3 wr => ∃ (k : Nat) (S : ByteArray), x = .int .i64 k ∧ s3 = .string S ∧ k ≤ 9223372036854775807 ∧ Hd (decDigits 0 = decDigits k ++ S.data.toList) ∧ Below w.heap.size w wr) (fun x _ _ => (intOf x).toNat)
    case atStart => exact ⟨0, ⟨#[]⟩, rfl, rfl, hN1, ⟨by show _ = _ ++ []; rw [List.append_nil]⟩, Below.refl _ _⟩
    case round =>
      obtain ⟨k, S, rfl, rfl, hk, hS, p3⟩ := hrel
      have hsz : S.size ≤ 19 := by
        have := congrArg List.length hS.out
        rw [List.length_append, size_list] at this
        omega
      by_cases h9 : 9 < k
      · have e1 : (k : Int).tmod 10 = ((k % 10 : Nat) : Int) := (Int.ofNat_tmod _ _).symm
        have e2 : (k : Int).tdiv 10 = ((k / 10 : Nat) : Int) := (Int.ofNat_tdiv _ _).symm
        have ht : k % 10 < 10 := Nat.mod_lt _ (by decide)
        have CV := conv_one wr (UInt8.ofNat (48 + k % 10)) (48 + ((k % 10 : Nat) : Int)) (by rw [byte_of ht]; omega)
        have hS' : Hd (decDigits 0 = decDigits (k / 10) ++ (mk [UInt8.ofNat (48 + k % 10)] ++ S).data.toList) := ⟨by rw [hS.out, dec_big (by omega), cat_list, mk_list, List.append_assoc]⟩
        have hlt : k / 10 < k := by omega
        have P4 : Hd (Below w.heap.size w (wr.alloc (.cells #[.int .u8 (48 + ((k % 10 : Nat) : Int))] 5))) := ⟨p3.alloc p3.size _⟩
        have hx1 : (mk [UInt8.ofNat (48 + k % 10)]).size = 1 := mk_size1 _
        clear hS p3
        generalize mk [UInt8.ofNat (48 + k % 10)] = x at *
        generalize k % 10 = t at *
        generalize k / 10 = u at *
        go_wp2_with fail
        go_roundw
        case rel => exact ⟨u, x ++ S, rfl, rfl, by omega, hS', P4.out⟩
        case measure => simp [intOf]; omega
      · have CV := conv_one wr (UInt8.ofNat (48 + k)) (48 + (k : Int)) (by rw [byte_of (by omega)]; omega)
        have hS' : Hd (mk (decDigits 0) = mk [UInt8.ofNat (48 + k)] ++ S) := ⟨list_inj (by rw [mk_list, hS.out, dec_small (by omega), cat_list, mk_list])⟩
        have P4 : Hd (Below w.heap.size w (wr.alloc (.cells #[.int .u8 (48 + (k : Int))] 5))) := ⟨p3.alloc p3.size _⟩
        have hx1 : (mk [UInt8.ofNat (48 + k)]).size = 1 := mk_size1 _
        clear hS p3
        generalize mk [UInt8.ofNat (48 + k)] = x at *
        go_wp2_with fail
        go_ret
        exact ⟨by rw [hS'.out]; rfl, P4.out⟩
  · obtain rfl : n = (N : Int) := by omega
    clear hN
    go_enter Tryd.func13, Tryd.ntmps13
    go_wp2_with fail
    go_loopw [0, 3] (fun x s3 wr => ∃ (k : Nat) (S : ByteArray), x = .int .i64 k ∧ s3 = .string S ∧ k ≤ 9223372036854775807 ∧ Hd (decDigits N = decDigits k ++ S.data.toList) ∧ Below w.heap.size w wr) (fun x _ _ => (intOf x).toNat)
    case atStart => exact ⟨N, ⟨#[]⟩, rfl, rfl, hN1, ⟨by show _ = _ ++ []; rw [List.append_nil]⟩, Below.refl _ _⟩
    case round =>
      obtain ⟨k, S, rfl, rfl, hk, hS, p3⟩ := hrel
      have hsz : S.size ≤ 19 := by
        have := congrArg List.length hS.out
        rw [List.length_append, size_list] at this
        omega
      by_cases h9 : 9 < k
      · have e1 : (k : Int).tmod 10 = ((k % 10 : Nat) : Int) := (Int.ofNat_tmod _ _).symm
        have e2 : (k : Int).tdiv 10 = ((k / 10 : Nat) : Int) := (Int.ofNat_tdiv _ _).symm
        have ht : k % 10 < 10 := Nat.mod_lt _ (by decide)
        have CV := conv_one wr (UInt8.ofNat (48 + k % 10)) (48 + ((k % 10 : Nat) : Int)) (by rw [byte_of ht]; omega)
        have hS' : Hd (decDigits N = decDigits (k / 10) ++ (mk [UInt8.ofNat (48 + k % 10)] ++ S).data.toList) := ⟨by rw [hS.out, dec_big (by omega), cat_list, mk_list, List.append_assoc]⟩
        have hlt : k / 10 < k := by omega
        have P4 : Hd (Below w.heap.size w (wr.alloc (.cells #[.int .u8 (48 + ((k % 10 : Nat) : Int))] 5))) := ⟨p3.alloc p3.size _⟩
        have hx1 : (mk [UInt8.ofNat (48 + k % 10)]).size = 1 := mk_size1 _
        clear hS p3
        generalize mk [UInt8.ofNat (48 + k % 10)] = x at *
        generalize k % 10 = t at *
        generalize k / 10 = u at *
        go_wp2_with fail
        go_roundw
        case rel => exact ⟨u, x ++ S, rfl, rfl, by omega, hS', P4.out⟩
        case measure => simp [intOf]; omega
      · have CV := conv_one wr (UInt8.ofNat (48 + k)) (48 + (k : Int)) (by rw [byte_of (by omega)]; omega)
        have hS' : Hd (mk (decDigits N) = mk [UInt8.ofNat (48 + k)] ++ S) := ⟨list_inj (by rw [mk_list, hS.out, dec_small (by omega), cat_list, mk_list])⟩
        have P4 : Hd (Below w.heap.size w (wr.alloc (.cells #[.int .u8 (48 + (k : Int))] 5))) := ⟨p3.alloc p3.size _⟩
        have hx1 : (mk [UInt8.ofNat (48 + k)]).size = 1 := mk_size1 _
        clear hS p3
        generalize mk [UInt8.ofNat (48 + k)] = x at *
        go_wp2_with fail
        go_ret
        exact ⟨by rw [hS'.out]; rfl, P4.out⟩

end Go.Proofs.YtaodckojinbdfaaDoor
