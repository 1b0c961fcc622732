/-
  Whether a list has a text: 'Has' of match and of the reference. Condition: the list lies in memory.
-/
import Derived.Test.YtijjpblmnlednaaPrE
import Derived.BigQuiet
namespace Go.Proofs.Ytijjpblmnlednaa
open Go.RowKit

def star : ByteArray := ⟨#[42]⟩
def anyT (L : List ByteArray) (x : ByteArray) : Bool := L.any fun y => decide (y = x)
/-- The one text that means all. -/
def allT (L : List ByteArray) : Bool := decide (L.length = 1) && decide (gt L 0 = star)
def hasB (L : List ByteArray) (x : ByteArray) : Bool := allT L || anyT L x
theorem star_l : star.toList = [42] := by rw [ByteArray.toList_eq]; rfl
theorem star_eq (x : ByteArray) : (x.toList == [42]) = decide (x = star) := by rw [← name_eq, star_l]
theorem one_no {n : Nat} (h : ¬ n = 1) : ((n : Int) == 1) = false := by
  rw [beq_eq_false_iff_ne]
  omega
theorem one_yes {n : Nat} (h : n = 1) : ((n : Int) == 1) = true := by subst h; rfl
theorem any_no {L : List ByteArray} {x : ByteArray} (h : ∀ j (_ : j < L.length), gt L j ≠ x) : anyT L x = false := by
  unfold anyT
  rw [List.any_eq_false]
  intro y hy
  obtain ⟨j, hj, rfl⟩ := List.getElem_of_mem hy
  have := h j hj
  rw [gt_eq hj] at this
  simpa using this
theorem any_yes {L : List ByteArray} {x : ByteArray} {k : Nat} (hk : k < L.length) (h : gt L k = x) : anyT L x = true := by
  unfold anyT
  rw [List.any_eq_true]
  rw [gt_eq hk] at h
  exact ⟨L[k], List.getElem_mem hk, decide_eq_true h⟩
theorem next_no {L : List ByteArray} {x : ByteArray} {k : Nat} (h : ∀ j (_ : j < L.length), j < k → gt L j ≠ x) (hx : gt L k ≠ x) : ∀ j (_ : j < L.length), j < k + 1 → gt L j ≠ x := fun j hj hjk => by
  rcases Nat.lt_or_eq_of_le (Nat.le_of_lt_succ hjk) with h1 | h1
  · exact h j hj h1
  · subst h1; exact hx

theorem index_ok (a : Option Addr) (c : Nat) (L : List ByteArray) (x : ByteArray) (w : World) (hr : RowL w a L) (hl : L.length ≤ 9223372036854775807) :
    Calls Try.prog 37 #[.slice a L.length c, .string x] w fun e w' => (∃ q : Int, e = .returned (.int .i64 q) ∧ decide (0 ≤ q) = anyT L x) ∧ w' = w := by
  have HR : Hd (RowL w a L) := ⟨hr⟩
  clear hr
  go_enter Try.func37, Try.ntmps37
  go_wp2_with fail
  go_loopw [8] (fun i wr => ∃ k : Nat, k ≤ L.length ∧ i = .int .i64 k ∧ Hd (∀ j (_ : j < L.length), j < k → gt L j ≠ x) ∧ wr = w) (fun i _ => L.length - (intOf i).toNat)
  case atStart => exact ⟨0, Nat.zero_le _, rfl, ⟨fun j _ h => absurd h (Nat.not_lt_zero _)⟩, rfl⟩
  case round =>
    obtain ⟨k, hk, rfl, hno, rfl⟩ := hrel
    by_cases hlt : k < L.length
    · obtain ⟨b, off, rfl, hb, hc⟩ := HR.out (by omega)
      have ck := hc k hlt
      clear hc
      have HI : Hd (k < L.length) := ⟨hlt⟩
      by_cases hx : gt L k = x
      · have A : Hd (anyT L x = true) := ⟨any_yes hlt hx⟩
        have E : (x.toList == (gt L k).toList) = true := str_is hx.symm
        clear hno hx
        generalize gt L k = y at *
        go_wp2_with fail
        go_ret
        exact ⟨⟨k, rfl, by rw [A.out]; exact decide_eq_true (Int.natCast_nonneg k)⟩, rfl⟩
      · have A : Hd (∀ j (_ : j < L.length), j < k + 1 → gt L j ≠ x) := ⟨next_no hno.out hx⟩
        have E : (x.toList == (gt L k).toList) = false := str_isnt (fun h => hx h.symm)
        clear hno hx
        generalize hy : gt L k = y at ck E
        clear hy
        go_wp2_with fail
        go_roundw
        case rel => exact ⟨k + 1, HI.out, by go_num, A, (by first | rfl | trivial)⟩
        case measure => have := HI.out; simp [intOf]; omega
    · obtain rfl : k = L.length := by omega
      have A : Hd (anyT L x = false) := ⟨any_no fun j hj => hno.out j hj hj⟩
      clear hno
      go_wp2_with fail
      go_ret
      exact ⟨⟨-1, rfl, by rw [A.out]; decide⟩, rfl⟩

theorem contains_ok (a : Option Addr) (c : Nat) (L : List ByteArray) (x : ByteArray) (w : World) (hr : RowL w a L) (hl : L.length ≤ 9223372036854775807) :
    Calls Try.prog 35 #[.slice a L.length c, .string x] w fun e w' => e = .returned (.bool (anyT L x)) ∧ w' = w := by
  have I := index_ok a c L x w hr hl
  clear hr
  generalize anyT L x = b at *
  generalize L.length = m at *
  go_enter Try.func35, Try.ntmps35
  go_wp2_with (go_at_call 37; refine I.mono ?_; rintro e w' ⟨⟨q, rfl, hq⟩, hw⟩; obtain rfl := hw.symm)
  go_ret
  exact ⟨by rw [← hq]; rfl, rfl⟩

theorem has_ok (v : Value) (L : List ByteArray) (x : ByteArray) (w : World) (h : LsR w v L) :
    Calls Try.prog 28 #[v, .string x] w fun e w' => e = .returned (.bool (hasB L x)) ∧ w' = w := by
  obtain ⟨a, c, rfl, hr, hc, h9, hx⟩ := h
  have I := contains_ok a c L x w hr h9
  have HR : Hd (RowL w a L) := ⟨hr⟩
  clear hr hc hx
  by_cases h1 : L.length = 1
  · obtain ⟨b, off, rfl, hb, hcs⟩ := HR.out (by omega)
    have c0 : w.cell? ⟨b, off, none⟩ = some (.string (gt L 0)) := hcs 0 (by omega)
    clear hcs
    have S := star_eq (gt L 0)
    by_cases hs : gt L 0 = star
    · have A : Hd (hasB L x = true) := ⟨by unfold hasB allT; rw [decide_eq_true h1, decide_eq_true hs]; rfl⟩
      rw [decide_eq_true hs] at S
      clear hs
      rw [h1] at I ⊢
      clear h1
      generalize gt L 0 = y at *
      go_enter Try.func28, Try.ntmps28
      go_wp2_with fail
      go_ret
      exact ⟨by rw [A.out]; rfl, rfl⟩
    · have A : Hd (hasB L x = anyT L x) := ⟨by unfold hasB allT; rw [decide_eq_false hs]; simp⟩
      rw [decide_eq_false hs] at S
      clear hs
      rw [h1] at I ⊢
      clear h1
      generalize hy : gt L 0 = y at c0 S
      clear hy
      go_enter Try.func28, Try.ntmps28
      go_wp2_with (go_at_call 35; refine I.mono ?_; rintro e w' ⟨rfl, hw⟩; obtain rfl := hw.symm)
      go_ret
      exact ⟨by rw [A.out]; rfl, rfl⟩
  · have A : Hd (hasB L x = anyT L x) := ⟨by unfold hasB allT; rw [decide_eq_false h1]; simp⟩
    have N := one_no h1
    generalize L.length = m at *
    go_enter Try.func28, Try.ntmps28
    go_wp2_with (go_at_call 35; refine I.mono ?_; rintro e w' ⟨rfl, hw⟩; obtain rfl := hw.symm)
    go_ret
    exact ⟨by rw [A.out]; rfl, rfl⟩

theorem rhas_ok (v : Value) (L : List ByteArray) (x : ByteArray) (w : World) (h : LsR w v L) :
    Calls Try.prog 31 #[v, .string x] w fun e w' => e = .returned (.bool (hasB L x)) ∧ w' = w := by
  obtain ⟨a, c, rfl, hr, hc, h9, hx⟩ := h
  have HR : Hd (RowL w a L) := ⟨hr⟩
  clear hr hc hx
  by_cases hall : allT L = true
  · have A : Hd (hasB L x = true) := ⟨by unfold hasB; rw [hall]; rfl⟩
    unfold allT at hall
    have h1 : L.length = 1 := by simp at hall; exact hall.1
    have hs : gt L 0 = star := by simp at hall; exact hall.2
    obtain ⟨b, off, rfl, hb, hcs⟩ := HR.out (by omega)
    have c0 : w.cell? ⟨b, off, none⟩ = some (.string (gt L 0)) := hcs 0 (by omega)
    have S := star_eq (gt L 0)
    rw [decide_eq_true hs] at S
    clear hcs hs hall
    rw [h1]
    clear h1
    generalize gt L 0 = y at *
    go_enter Try.func31, Try.ntmps31
    go_wp2_with fail
    go_ret
    exact ⟨by rw [A.out]; rfl, rfl⟩
  · have A : Hd (hasB L x = anyT L x) := ⟨by unfold hasB; rw [Bool.not_eq_true] at hall; rw [hall]; rfl⟩
    by_cases h1 : L.length = 1
    case' pos =>
      obtain ⟨b, off, rfl, hb, hcs⟩ := HR.out (by omega)
      have c0 : w.cell? ⟨b, off, none⟩ = some (.string (gt L 0)) := hcs 0 (by omega)
      have S : ((gt L 0).toList == [42]) = false := by
        rw [star_eq]
        refine decide_eq_false fun hs => hall ?_
        unfold allT
        rw [decide_eq_true h1, decide_eq_true hs]
        rfl
      have N := one_yes h1
      have Z : 0 < L.length := by omega
      clear hcs hall h1
      generalize hy : gt L 0 = y at c0 S
      clear hy
    case' neg =>
      have N := one_no h1
      clear hall h1
    all_goals
      obtain ⟨n, hn⟩ : ∃ n, n = L.length := ⟨_, rfl⟩
      have HN : Hd (n = L.length) := ⟨hn⟩
      rw [← hn] at N h9 ⊢
      try rw [← hn] at Z
      clear hn
      go_enter Try.func31, Try.ntmps31
      go_wp2_with fail
      clear N
      try clear S
      try clear c0
      go_loopw [5] (fun i wr => ∃ k : Nat, k ≤ n ∧ i = .int .i64 k ∧ Hd (∀ j (_ : j < L.length), j < k → gt L j ≠ x) ∧ wr = w) (fun i _ => n - (intOf i).toNat)
      case atStart => exact ⟨0, Nat.zero_le _, rfl, ⟨fun j _ h => absurd h (Nat.not_lt_zero _)⟩, rfl⟩
      case round =>
        obtain ⟨k, hk, rfl, hno, rfl⟩ := hrel
        by_cases hlt : k < n
        · have hlt' : k < L.length := by have := HN.out; omega
          obtain ⟨b, off, e, hb, hc⟩ := HR.out (by omega)
          first | cases e | subst e
          have ck := hc k hlt'
          clear hc
          have HI : Hd (k < n) := ⟨hlt⟩
          by_cases hx : gt L k = x
          · have B : Hd (anyT L x = true) := ⟨any_yes hlt' hx⟩
            have E : ((gt L k).toList == x.toList) = true := str_is hx
            clear hno hx hlt'
            generalize gt L k = y at *
            go_wp2_with fail
            go_ret
            exact ⟨by rw [A.out, B.out]; rfl, rfl⟩
          · have B : Hd (∀ j (_ : j < L.length), j < k + 1 → gt L j ≠ x) := ⟨next_no hno.out hx⟩
            have E : ((gt L k).toList == x.toList) = false := str_isnt hx
            clear hno hx hlt'
            generalize hy : gt L k = y at ck E
            clear hy
            go_wp2_with fail
            go_roundw
            case rel => exact ⟨k + 1, HI.out, by go_num, B, (by first | rfl | trivial)⟩
            case measure => have := HI.out; simp [intOf]; omega
        · obtain rfl : k = n := by omega
          have B : Hd (anyT L x = false) := ⟨any_no fun j hj => hno.out j hj (by have := HN.out; omega)⟩
          clear hno
          go_wp2_with fail
          go_ret
          exact ⟨by rw [A.out, B.out]; rfl, rfl⟩
end Go.Proofs.Ytijjpblmnlednaa
