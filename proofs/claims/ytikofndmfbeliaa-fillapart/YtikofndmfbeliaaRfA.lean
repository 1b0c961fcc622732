/-
  Whether a level, or a schema, of a name is there, as the reference asks it. Condition: the configuration lies in memory.
-/
import Derived.Test.YtikofndmfbeliaaCpy
import Derived.Test.YtikofndmfbeliaaFlK
namespace Go.Proofs.Ytikofndmfbeliaa
open Go.RowKit

set_option maxRecDepth 20000 in
set_option maxHeartbeats 4000000 in
theorem rHasLv (v : Value) (C : Cf) (x : ByteArray) (w : World) (h : CfR w v C) : Calls Try.prog 17 #[v, .string x] w fun e w' => e = .returned (.bool (anyL C.levels x)) ∧ Below w.heap.size w w' := by
  obtain ⟨n9, m9⟩ := h.sz
  obtain ⟨aL, cL, aS, cS, V, rfl, -, -, hL, hV, hS, -⟩ := h.ex
  clear h
  obtain ⟨x0, x1, x2, x3, L, S⟩ := C
  simp only at n9 m9 hL hV hS ⊢
  have HR : Hd (LvR w aL L) := ⟨hL⟩
  have HV : Hd (V.length = S.length) := ⟨hV⟩
  obtain ⟨n, hn⟩ : ∃ n, n = L.length := ⟨_, rfl⟩
  obtain ⟨m, hm⟩ : ∃ m, m = S.length := ⟨_, rfl⟩
  rw [← hn] at n9 ⊢
  rw [← hm] at m9 ⊢
  have HN : Hd (n = L.length ∧ m = S.length) := ⟨hn, hm⟩
  have AL := alloc_below w (.cells #[.int .i64 x0, .int .i64 x1, .int .i64 x2, .int .i64 x3, .slice aL n cL, .slice aS m cS] 25)
  have NB := Blk.new w 25 #[.int .i64 x0, .int .i64 x1, .int .i64 x2, .int .i64 x3, .slice aL n cL, .slice aS m cS]
  clear hL hS hV hn hm
  have HB : Hd (Below w.heap.size w (w.alloc (.cells #[.int .i64 x0, .int .i64 x1, .int .i64 x2, .int .i64 x3, .slice aL n cL, .slice aS m cS] 25))) := ⟨AL⟩
  have e4 := NB.cellv (v := .slice aL n cL) 4 rfl
  clear AL NB
  go_enter Try.func17, Try.ntmps17
  go_wp2_with fail
  generalize w.alloc _ = w1 at *
  generalize hg : w.heap.size = g at e4 ⊢
  have HG : Hd (w.heap.size = g) := ⟨hg⟩
  clear hg
  go_loopw [5] (fun i wr => ∃ k : Nat, k ≤ n ∧ i = .int .i64 k ∧ Hd (∀ j (h : j < L.length), j < k → L[j].name ≠ x) ∧ Hd (wr = w1)) (fun i _ => n - (intOf i).toNat)
  case atStart => exact ⟨0, Nat.zero_le _, rfl, ⟨fun j _ h => absurd h (Nat.not_lt_zero _)⟩, ⟨rfl⟩⟩
  case round =>
    obtain ⟨k, hk, rfl, hno, hw⟩ := hrel
    have e4 := e4
    rw [← hw.out] at e4
    by_cases hlt : k < n
    · have hkL : k < L.length := by rw [← HN.out.1]; exact hlt
      obtain ⟨b, off, rfl, hb, hc⟩ := (HR.out.carry (show Below w.heap.size w wr by rw [hw.out]; exact HB.out)) (by omega)
      have y0 : wr.cell? ⟨b, off + k * 10, none⟩ = some (.string L[k].name) := hc k hkL 0 (by decide)
      have HK : Hd (k < n) := ⟨hlt⟩
      by_cases hx : L[k].name = x
      · have A : Hd (anyL L x = true) := ⟨List.any_eq_true.2 ⟨L[k], List.getElem_mem hkL, decide_eq_true hx⟩⟩
        have q := str_is hx
        clear hc hno hx
        generalize L[k].name = y at *
        clear hkL
        go_wp2_with fail
        go_ret
        exact ⟨by rw [A.out]; rfl, by rw [hw.out]; exact HB.out⟩
      · have A : Hd (∀ j (h : j < L.length), j < k + 1 → L[j].name ≠ x) := ⟨fun j hj hjk => by
          rcases Nat.lt_or_eq_of_le (Nat.le_of_lt_succ hjk) with h | h
          · exact hno.out j hj h
          · subst h; exact hx⟩
        have q := str_isnt hx
        clear hc hno hx
        generalize L[k].name = y at *
        clear hkL
        go_wp2_with fail
        go_roundw
        case rel => exact ⟨k + 1, HK.out, by go_num, A, hw⟩
        case measure => have := HK.out; simp [intOf]; omega
    · obtain rfl : k = n := by omega
      have A : Hd (anyL L x = false) := ⟨by
        unfold anyL
        rw [List.any_eq_false]
        intro l hl'
        obtain ⟨j, hj, rfl⟩ := List.getElem_of_mem hl'
        simpa using hno.out j hj (by rw [HN.out.1]; exact hj)⟩
      clear hno
      go_wp2_with fail
      go_ret
      exact ⟨by rw [A.out]; rfl, by rw [hw.out]; exact HB.out⟩

set_option maxRecDepth 20000 in
set_option maxHeartbeats 4000000 in
theorem rHasSc (v : Value) (C : Cf) (x : ByteArray) (w : World) (h : CfR w v C) : Calls Try.prog 18 #[v, .string x] w fun e w' => e = .returned (.bool (anyS C.schemas x)) ∧ Below w.heap.size w w' := by
  obtain ⟨n9, m9⟩ := h.sz
  obtain ⟨aL, cL, aS, cS, V, rfl, -, -, hL, hV, hS, -⟩ := h.ex
  clear h
  obtain ⟨x0, x1, x2, x3, L, S⟩ := C
  simp only at n9 m9 hL hV hS ⊢
  have HR : Hd (ScR w aS S V) := ⟨hS⟩
  have HV : Hd (V.length = S.length) := ⟨hV⟩
  obtain ⟨n, hn⟩ : ∃ n, n = L.length := ⟨_, rfl⟩
  obtain ⟨m, hm⟩ : ∃ m, m = S.length := ⟨_, rfl⟩
  rw [← hn] at n9 ⊢
  rw [← hm] at m9 ⊢
  have HN : Hd (n = L.length ∧ m = S.length) := ⟨hn, hm⟩
  have AL := alloc_below w (.cells #[.int .i64 x0, .int .i64 x1, .int .i64 x2, .int .i64 x3, .slice aL n cL, .slice aS m cS] 25)
  have NB := Blk.new w 25 #[.int .i64 x0, .int .i64 x1, .int .i64 x2, .int .i64 x3, .slice aL n cL, .slice aS m cS]
  clear hL hS hV hn hm
  have HB : Hd (Below w.heap.size w (w.alloc (.cells #[.int .i64 x0, .int .i64 x1, .int .i64 x2, .int .i64 x3, .slice aL n cL, .slice aS m cS] 25))) := ⟨AL⟩
  have e4 := NB.cellv (v := .slice aS m cS) 5 rfl
  clear AL NB
  go_enter Try.func18, Try.ntmps18
  go_wp2_with fail
  generalize w.alloc _ = w1 at *
  generalize hg : w.heap.size = g at e4 ⊢
  have HG : Hd (w.heap.size = g) := ⟨hg⟩
  clear hg
  go_loopw [5] (fun i wr => ∃ k : Nat, k ≤ m ∧ i = .int .i64 k ∧ Hd (∀ j (h : j < S.length), j < k → S[j].name ≠ x) ∧ Hd (wr = w1)) (fun i _ => m - (intOf i).toNat)
  case atStart => exact ⟨0, Nat.zero_le _, rfl, ⟨fun j _ h => absurd h (Nat.not_lt_zero _)⟩, ⟨rfl⟩⟩
  case round =>
    obtain ⟨k, hk, rfl, hno, hw⟩ := hrel
    have e4 := e4
    rw [← hw.out] at e4
    by_cases hlt : k < m
    · have hkL : k < S.length := by rw [← HN.out.2]; exact hlt
      obtain ⟨b, off, rfl, hb, hc⟩ := (HR.out.carry (show Below w.heap.size w wr by rw [hw.out]; exact HB.out)) (by omega)
      have y0 : wr.cell? ⟨b, off + k * 5, none⟩ = some (.string S[k].name) := hc k hkL (by rw [HV.out]; exact hkL) 0 (by decide)
      have HK : Hd (k < m) := ⟨hlt⟩
      by_cases hx : S[k].name = x
      · have A : Hd (anyS S x = true) := ⟨List.any_eq_true.2 ⟨S[k], List.getElem_mem hkL, decide_eq_true hx⟩⟩
        have q := str_is hx
        clear hc hno hx
        generalize S[k].name = y at *
        clear hkL
        go_wp2_with fail
        go_ret
        exact ⟨by rw [A.out]; rfl, by rw [hw.out]; exact HB.out⟩
      · have A : Hd (∀ j (h : j < S.length), j < k + 1 → S[j].name ≠ x) := ⟨fun j hj hjk => by
          rcases Nat.lt_or_eq_of_le (Nat.le_of_lt_succ hjk) with h | h
          · exact hno.out j hj h
          · subst h; exact hx⟩
        have q := str_isnt hx
        clear hc hno hx
        generalize S[k].name = y at *
        clear hkL
        go_wp2_with fail
        go_roundw
        case rel => exact ⟨k + 1, HK.out, by go_num, A, hw⟩
        case measure => have := HK.out; simp [intOf]; omega
    · obtain rfl : k = m := by omega
      have A : Hd (anyS S x = false) := ⟨by
        unfold anyS
        rw [List.any_eq_false]
        intro l hl'
        obtain ⟨j, hj, rfl⟩ := List.getElem_of_mem hl'
        simpa using hno.out j hj (by rw [HN.out.2]; exact hj)⟩
      clear hno
      go_wp2_with fail
      go_ret
      exact ⟨by rw [A.out]; rfl, by rw [hw.out]; exact HB.out⟩

end Go.Proofs.Ytikofndmfbeliaa
