/-
  What 'WordsCompare' of the statements answers: true, for all numbers. Condition: the library's table of powers lies in memory.
-/
import Derived.Test.YtaedgkaldafbbabDoorLawD
namespace Go.Proofs.YtaedgkaldafbbabDoor
open Go.RowKit Go.Lib

theorem valL_acc : ∀ (l : List UInt8) (n : Nat), l.foldl (fun n b => n * 10 + (b.toNat - 48)) n = n * 10 ^ l.length + valL l
  | [], n => by simp [valL]
  | b :: l, n => by
    have h1 := valL_acc l (n * 10 + (b.toNat - 48))
    have h2 := valL_acc l (0 * 10 + (b.toNat - 48))
    show l.foldl _ (n * 10 + (b.toNat - 48)) = n * 10 ^ (l.length + 1) + l.foldl _ (0 * 10 + (b.toNat - 48))
    rw [h1, h2, Nat.pow_succ, Nat.zero_mul, Nat.zero_add, Nat.add_mul, Nat.mul_assoc, Nat.mul_comm 10 (10 ^ l.length), Nat.add_assoc]
theorem valL_cons (b : UInt8) (l : List UInt8) : valL (b :: l) = (b.toNat - 48) * 10 ^ l.length + valL l := by
  have h := valL_acc l (0 * 10 + (b.toNat - 48))
  show l.foldl _ (0 * 10 + (b.toNat - 48)) = _
  rw [h, Nat.zero_mul, Nat.zero_add]
theorem valL_lt : ∀ l : List UInt8, IsD l → valL l < 10 ^ l.length
  | [], _ => by decide
  | b :: l, h => by
    have ih := valL_lt l (fun x hx => h x (List.mem_cons_of_mem _ hx))
    have hb := h b (List.mem_cons_self ..)
    rw [valL_cons, List.length_cons, Nat.pow_succ]
    have : (b.toNat - 48) * 10 ^ l.length ≤ 9 * 10 ^ l.length := Nat.mul_le_mul_right _ (by omega)
    omega

/-- Digits of one length stand as their numbers do. -/
theorem less_val : ∀ a b : List UInt8, IsD a → IsD b → a.length = b.length → Op.bytesLess a b = decide (valL a < valL b)
  | [], [], _, _, _ => by simp [Op.bytesLess]
  | [], _ :: _, _, _, h => by simp at h
  | _ :: _, [], _, _, h => by simp at h
  | x :: a, y :: b, ha, hb, h => by
    have h' : a.length = b.length := by simpa using h
    have ih := less_val a b (fun z hz => ha z (List.mem_cons_of_mem _ hz)) (fun z hz => hb z (List.mem_cons_of_mem _ hz)) h'
    have hx := ha x (List.mem_cons_self ..)
    have hy := hb y (List.mem_cons_self ..)
    have la := valL_lt a (fun z hz => ha z (List.mem_cons_of_mem _ hz))
    have lb := valL_lt b (fun z hz => hb z (List.mem_cons_of_mem _ hz))
    rw [valL_cons, valL_cons, ← h']
    rw [← h'] at lb
    generalize 10 ^ a.length = P at *
    show (decide (x < y) || (x == y && Op.bytesLess a b)) = _
    rcases Nat.lt_trichotomy x.toNat y.toNat with h | h | h
    · have h1 : x < y := UInt8.lt_iff_toNat_lt.2 h
      have h2 : (x.toNat - 48 + 1) * P ≤ (y.toNat - 48) * P := Nat.mul_le_mul_right _ (by omega)
      rw [Nat.succ_mul] at h2
      rw [decide_eq_true h1, Bool.true_or, decide_eq_true (by omega)]
    · obtain rfl := UInt8.toNat_inj.1 h
      rw [decide_eq_false (by intro hc; have := UInt8.lt_iff_toNat_lt.1 hc; omega), Bool.false_or, beq_self_eq_true, Bool.true_and, ih]
      exact decide_eq_decide.2 (by omega)
    · have h1 : ¬ x < y := fun hc => by have := UInt8.lt_iff_toNat_lt.1 hc; omega
      have h0 : (x == y) = false := by
        cases hb : (x == y) with
        | false => rfl
        | true => have := congrArg UInt8.toNat (eq_of_beq hb); omega
      have h2 : (y.toNat - 48 + 1) * P ≤ (x.toNat - 48) * P := Nat.mul_le_mul_right _ (by omega)
      rw [Nat.succ_mul] at h2
      rw [decide_eq_false h1, h0, Bool.false_or, Bool.false_and, decide_eq_false (by omega)]

theorem dec_lt (n : Nat) : n < 10 ^ (decDigits n).length := by
  have := valL_lt _ (dec_digits n)
  rwa [dec_val] at this
theorem dec_ge : ∀ n, 2 ≤ (decDigits n).length → 10 ^ ((decDigits n).length - 1) ≤ n := by
  apply dec_ind (motive := fun n => 2 ≤ (decDigits n).length → 10 ^ ((decDigits n).length - 1) ≤ n)
  · intro n h hl
    rw [dec_small h] at hl
    simp at hl
  · intro n h ih _
    rw [dec_big h, List.length_append]
    show 10 ^ ((decDigits (n / 10)).length + 1 - 1) ≤ n
    rw [Nat.add_sub_cancel]
    have hp := dec_pos (n / 10)
    rcases (by omega : (decDigits (n / 10)).length = 1 ∨ 2 ≤ (decDigits (n / 10)).length) with h1 | h2
    · rw [h1]; omega
    · have := ih h2
      obtain ⟨j, hj⟩ : ∃ j, (decDigits (n / 10)).length = j + 1 := ⟨(decDigits (n / 10)).length - 1, by omega⟩
      rw [hj, Nat.add_sub_cancel] at this
      rw [hj, Nat.pow_succ]
      omega
theorem dec_longer {n m : Nat} (h : (decDigits n).length < (decDigits m).length) : n < m := by
  have h1 := dec_lt n
  have hp := dec_pos n
  have h2 := dec_ge m (by omega)
  have h3 : 10 ^ (decDigits n).length ≤ 10 ^ ((decDigits m).length - 1) := Nat.pow_le_pow_right (by decide) (by omega)
  omega
theorem dec_inj {n m : Nat} (h : decDigits n = decDigits m) : n = m := by rw [← dec_val n, h, dec_val]

/-- How the digits of two numbers stand. -/
theorem digits_stand (N M : Nat) : ((digB N).size < (digB M).size → N < M) ∧ ((digB M).size < (digB N).size → M < N) ∧ ((digB N).size = (digB M).size → Op.bytesLess (digB N).toList (digB M).toList = decide (N < M)) ∧ (N ≠ M → digB N ≠ digB M) := by
  have e : ∀ n : Nat, digB (n : Int) = mk (decDigits n) := fun n => by unfold digB; congr 2; omega
  have z : ∀ n : Nat, (digB (n : Int)).size = (decDigits n).length := fun n => by rw [e, ← size_list, mk_list]
  rw [z, z, ByteArray.toList_eq, ByteArray.toList_eq, e, e, mk_list, mk_list]
  refine ⟨dec_longer, dec_longer, fun h => ?_, fun h he => h (dec_inj (mk_inj he))⟩
  rw [less_val _ _ (dec_digits N) (dec_digits M) h, dec_val, dec_val]

set_option maxRecDepth 20000 in
theorem compare_two (N M : Nat) (w : World) (hN : N ≤ 9223372036854775807) (hM : M ≤ 9223372036854775807) (hT : Tab w) :
    Calls Tryd.prog 3 #[.int .i64 N, .int .i64 M] w fun e w' => e = .returned (.bool true) ∧ Below w.heap.size w w' := by
  have A := fun w => digits_ok (N : Int) (by omega) (by omega) w
  have B := fun w => digits_ok (M : Int) (by omega) (by omega) w
  have sa : (digB (N : Int)).size ≤ 19 := by rw [digB_size]; exact dec_len _ 19 (by decide) (by omega)
  have sb : (digB (M : Int)).size ≤ 19 := by rw [digB_size]; exact dec_len _ 19 (by decide) (by omega)
  obtain ⟨d1, d2, d3, d4⟩ := digits_stand N M
  rcases Nat.lt_trichotomy N M with hlt | rfl | hgt
  · have ne := str_ne (d4 (by omega))
    have nm : ((N : Int) == (M : Int)) = false := by simp; omega
    by_cases hsz : (digB (N : Int)).size = (digB (M : Int)).size
    · have hb := d3 hsz
      rw [decide_eq_true hlt] at hb
      clear d1 d2 d3 d4
      generalize digB (N : Int) = x at *
      generalize digB (M : Int) = y at *
      go_enter Tryd.func3, Tryd.ntmps3
      go_wp2_with (go_at_call 5; refine (awake_any _).mono ?_; rintro e w1 ⟨rfl, hb1⟩)
      go_at_call 6
      refine (A _ (hT.stays hb1)).mono ?_
      rintro e w2 ⟨rfl, hb2⟩
      have b2 : Below w.heap.size w w2 := hb1.trans (hb2.mono hb1.size)
      have hT2 := hT.stays b2
      have B2 : Hd (Below w.heap.size w w2) := ⟨b2⟩
      clear hb1 hb2 b2 hT A
      go_wp2_with fail
      go_at_call 6
      refine (B _ hT2).mono ?_
      rintro e w3 ⟨rfl, hb3⟩
      have B3 : Hd (Below w.heap.size w w3) := ⟨B2.out.trans (hb3.mono B2.out.size)⟩
      clear hb3 hT2 B
      go_wp2_with fail
      go_ret
      exact ⟨rfl, B3.out⟩
    · have hs : (digB (N : Int)).size < (digB (M : Int)).size := by
        rcases Nat.lt_trichotomy (digB (N : Int)).size (digB (M : Int)).size with h | h | h
        · exact h
        · exact absurd h hsz
        · have := d2 h; omega
      clear d1 d2 d3 d4
      generalize digB (N : Int) = x at *
      generalize digB (M : Int) = y at *
      go_enter Tryd.func3, Tryd.ntmps3
      go_wp2_with (go_at_call 5; refine (awake_any _).mono ?_; rintro e w1 ⟨rfl, hb1⟩)
      go_at_call 6
      refine (A _ (hT.stays hb1)).mono ?_
      rintro e w2 ⟨rfl, hb2⟩
      have b2 : Below w.heap.size w w2 := hb1.trans (hb2.mono hb1.size)
      have hT2 := hT.stays b2
      have B2 : Hd (Below w.heap.size w w2) := ⟨b2⟩
      clear hb1 hb2 b2 hT A
      go_wp2_with fail
      go_at_call 6
      refine (B _ hT2).mono ?_
      rintro e w3 ⟨rfl, hb3⟩
      have B3 : Hd (Below w.heap.size w w3) := ⟨B2.out.trans (hb3.mono B2.out.size)⟩
      clear hb3 hT2 B
      go_wp2_with fail
      go_ret
      exact ⟨rfl, B3.out⟩
  · have hb := d3 rfl
    rw [decide_eq_false (Nat.lt_irrefl N)] at hb
    clear d1 d2 d3 d4
    generalize digB (N : Int) = x at *
    go_enter Tryd.func3, Tryd.ntmps3
    go_wp2_with (go_at_call 5; refine (awake_any _).mono ?_; rintro e w1 ⟨rfl, hb1⟩)
    go_at_call 6
    refine (A _ (hT.stays hb1)).mono ?_
    rintro e w2 ⟨rfl, hb2⟩
    have b2 : Below w.heap.size w w2 := hb1.trans (hb2.mono hb1.size)
    have hT2 := hT.stays b2
    have B2 : Hd (Below w.heap.size w w2) := ⟨b2⟩
    clear hb1 hb2 b2 hT A
    go_wp2_with fail
    go_at_call 6
    refine (B _ hT2).mono ?_
    rintro e w3 ⟨rfl, hb3⟩
    have B3 : Hd (Below w.heap.size w w3) := ⟨B2.out.trans (hb3.mono B2.out.size)⟩
    clear hb3 hT2 B
    go_wp2_with fail
    go_ret
    exact ⟨rfl, B3.out⟩
  · have ne := str_ne (d4 (by omega))
    have hnl : decide (N < M) = false := decide_eq_false (by omega)
    have nm : ((N : Int) == (M : Int)) = false := by simp; omega
    by_cases hsz : (digB (N : Int)).size = (digB (M : Int)).size
    · have hb := d3 hsz
      rw [decide_eq_false (by omega)] at hb
      clear d1 d2 d3 d4
      generalize digB (N : Int) = x at *
      generalize digB (M : Int) = y at *
      go_enter Tryd.func3, Tryd.ntmps3
      go_wp2_with (go_at_call 5; refine (awake_any _).mono ?_; rintro e w1 ⟨rfl, hb1⟩)
      go_at_call 6
      refine (A _ (hT.stays hb1)).mono ?_
      rintro e w2 ⟨rfl, hb2⟩
      have b2 : Below w.heap.size w w2 := hb1.trans (hb2.mono hb1.size)
      have hT2 := hT.stays b2
      have B2 : Hd (Below w.heap.size w w2) := ⟨b2⟩
      clear hb1 hb2 b2 hT A
      go_wp2_with fail
      go_at_call 6
      refine (B _ hT2).mono ?_
      rintro e w3 ⟨rfl, hb3⟩
      have B3 : Hd (Below w.heap.size w w3) := ⟨B2.out.trans (hb3.mono B2.out.size)⟩
      clear hb3 hT2 B
      go_wp2_with fail
      go_ret
      exact ⟨rfl, B3.out⟩
    · have hs : (digB (M : Int)).size < (digB (N : Int)).size := by
        rcases Nat.lt_trichotomy (digB (N : Int)).size (digB (M : Int)).size with h | h | h
        · have := d1 h; omega
        · exact absurd h hsz
        · exact h
      have hnl2 : decide ((digB (N : Int)).size < (digB (M : Int)).size) = false := decide_eq_false (by omega)
      clear d1 d2 d3 d4
      generalize digB (N : Int) = x at *
      generalize digB (M : Int) = y at *
      go_enter Tryd.func3, Tryd.ntmps3
      go_wp2_with (go_at_call 5; refine (awake_any _).mono ?_; rintro e w1 ⟨rfl, hb1⟩)
      go_at_call 6
      refine (A _ (hT.stays hb1)).mono ?_
      rintro e w2 ⟨rfl, hb2⟩
      have b2 : Below w.heap.size w w2 := hb1.trans (hb2.mono hb1.size)
      have hT2 := hT.stays b2
      have B2 : Hd (Below w.heap.size w w2) := ⟨b2⟩
      clear hb1 hb2 b2 hT A
      go_wp2_with fail
      go_at_call 6
      refine (B _ hT2).mono ?_
      rintro e w3 ⟨rfl, hb3⟩
      have B3 : Hd (Below w.heap.size w w3) := ⟨B2.out.trans (hb3.mono B2.out.size)⟩
      clear hb3 hT2 B
      go_wp2_with fail
      go_ret
      exact ⟨rfl, B3.out⟩

theorem compare_all (n m : Int) (w : World) (hn : (Lit.int .i64 n).wf = true) (hm : (Lit.int .i64 m).wf = true) (hT : Tab w) :
    Calls Tryd.prog 3 #[.int .i64 n, .int .i64 m] w fun e w' => e = .returned (.bool true) ∧ Below w.heap.size w w' := by
  obtain ⟨n0, n1⟩ := wf_i hn
  obtain ⟨m0, m1⟩ := wf_i hm
  by_cases h1 : n < 0
  · go_enter Tryd.func3, Tryd.ntmps3
    go_wp2_with (go_at_call 5; refine (awake_any _).mono ?_; rintro e w1 ⟨rfl, hb1⟩)
    go_ret
    exact ⟨rfl, hb1⟩
  by_cases h2 : m < 0
  · go_enter Tryd.func3, Tryd.ntmps3
    go_wp2_with (go_at_call 5; refine (awake_any _).mono ?_; rintro e w1 ⟨rfl, hb1⟩)
    go_ret
    exact ⟨rfl, hb1⟩
  obtain ⟨N, rfl⟩ : ∃ N : Nat, n = N := ⟨n.toNat, by omega⟩
  obtain ⟨M, rfl⟩ : ∃ M : Nat, m = M := ⟨m.toNat, by omega⟩
  exact compare_two N M w (by omega) (by omega) hT

end Go.Proofs.YtaedgkaldafbbabDoor
