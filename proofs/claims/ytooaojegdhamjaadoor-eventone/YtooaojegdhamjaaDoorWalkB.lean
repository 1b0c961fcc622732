/-
  Lists of texts in memory; what 'Same' of the reference, 'slices.Index', 'slices.Contains' and 'unlikeWords' of the program answer. Conditions: the lists lie in memory.
-/
import Derived.Test.YtooaojegdhamjaaDoorWalkA
namespace Go.Proofs.YtooaojegdhamjaaDoor
open Go.RowKit

/-- The k-th text of a list. -/
def gt (L : List ByteArray) (k : Nat) : ByteArray := L.getD k ⟨#[]⟩
theorem gt_eq {L : List ByteArray} {k : Nat} (h : k < L.length) : gt L k = L[k] := by unfold gt; simp [h]
theorem gt_mem {L : List ByteArray} {k : Nat} (h : k < L.length) : gt L k ∈ L := by rw [gt_eq h]; exact List.getElem_mem h

/-- A list of texts that lies in memory. -/
def RowL (w : World) (a : Option Addr) (L : List ByteArray) : Prop :=
  0 < L.length → ∃ b off, a = some ⟨b, off, none⟩ ∧ b < w.heap.size ∧ ∀ k, k < L.length → w.cell? ⟨b, off + k, none⟩ = some (.string (gt L k))
theorem RowL.carry {w w' : World} {a : Option Addr} {L : List ByteArray} (h : RowL w a L) (g : Below w.heap.size w w') : RowL w' a L := by
  intro hn
  obtain ⟨b, off, e, hb, hc⟩ := h hn
  exact ⟨b, off, e, Nat.lt_of_lt_of_le hb g.size, fun k hk => (g.cell (p := ⟨b, off + k, none⟩) hb).trans (hc k hk)⟩

theorem str_ne {x y : ByteArray} (h : x ≠ y) : (x.toList == y.toList) = false := by
  rw [ByteArray.toList_eq, ByteArray.toList_eq]
  cases hb : (x.data.toList == y.data.toList) with
  | false => rfl
  | true =>
    have e := eq_of_beq hb
    exact absurd (ByteArray.ext (Array.toList_inj.1 e)) h

theorem same_yes (a b : Option Addr) (c1 c2 : Nat) (L M : List ByteArray) (w : World) (h1 : RowL w a L) (h2 : RowL w b M) (hn : L.length ≤ 9223372036854775807) (h : L = M) :
    Calls Tryd.prog 19 #[.slice a L.length c1, .slice b M.length c2] w fun e w' => e = .returned (.bool true) ∧ Below w.heap.size w w' := by
  subst h
  obtain ⟨n, hL⟩ : ∃ n, L.length = n := ⟨_, rfl⟩
  rw [hL] at hn ⊢
  have g1 : 0 < n → ∃ b off, a = some ⟨b, off, none⟩ ∧ b < w.heap.size ∧ ∀ k, k < n → w.cell? ⟨b, off + k, none⟩ = some (.string (gt L k)) := by rw [← hL]; exact h1
  have g2 : 0 < n → ∃ c off, b = some ⟨c, off, none⟩ ∧ c < w.heap.size ∧ ∀ k, k < n → w.cell? ⟨c, off + k, none⟩ = some (.string (gt L k)) := by rw [← hL]; exact h2
  clear h1 h2 hL
  go_enter Tryd.func19, Tryd.ntmps19
  go_wp2
  go_loopw [5] (fun i wr => ∃ k : Nat, k ≤ n ∧ i = .int .i64 k ∧ Below w.heap.size w wr) (fun i _ => n - (intOf i).toNat)
  case atStart => exact ⟨0, Nat.zero_le _, rfl, Below.refl _ _⟩
  case round =>
    obtain ⟨k, hk, rfl, p3⟩ := hrel
    by_cases hlt : k < n
    · obtain ⟨b1, o1, rfl, hb1, hc1⟩ := g1 (by omega)
      obtain ⟨b2, o2, rfl, hb2, hc2⟩ := g2 (by omega)
      have d1 := (p3.cell (p := ⟨b1, o1 + k, none⟩) hb1).trans (hc1 k hlt)
      have d2 := (p3.cell (p := ⟨b2, o2 + k, none⟩) hb2).trans (hc2 k hlt)
      clear g1 g2 hc1 hc2
      generalize gt L k = x at *
      go_wp2
      go_quiet (fail)
      go_wp2
      go_roundw
      case rel => exact ⟨k + 1, by omega, by go_num, ⟨p3.os, p3.tape, p3.output, p3.size, p3.block⟩⟩
      case measure => simp [intOf]; omega
    · obtain rfl : k = n := by omega
      clear g1 g2
      go_wp2
      go_ret
      exact ⟨rfl, p3⟩

theorem index_no (a : Option Addr) (n c : Nat) (L : List ByteArray) (x : ByteArray) (w : World) (hr : RowL w a L) (hn : n ≤ L.length) (hm : n ≤ 64) (h : ∀ j, j < n → gt L j ≠ x) :
    Calls Tryd.prog 87 #[.slice a n c, .string x] w fun e w' => e = .returned (.int .i64 (-1)) ∧ w' = w := by
  have H : Hd (∀ j, j < n → gt L j ≠ x) := ⟨h⟩
  clear h
  go_enter Tryd.func87, Tryd.ntmps87
  go_wp2
  go_loop [8] (fun i => ∃ k : Nat, k ≤ n ∧ i = .int .i64 k) (fun i => n - (intOf i).toNat)
  case atStart => exact ⟨0, Nat.zero_le _, rfl⟩
  case round =>
    obtain ⟨k, hk, rfl⟩ := hrel
    by_cases hlt : k < n
    · obtain ⟨b, off, rfl, hb, hc⟩ := hr (by omega)
      have hcell := hc k (by omega)
      have ne := str_ne (Ne.symm (H.out k hlt))
      clear hc hr H
      generalize gt L k = y at *
      go_wp2
      go_round
      case rel => exact ⟨k + 1, by omega, by go_num⟩
      case measure => simp [intOf]; omega
    · obtain rfl : k = n := by omega
      clear hr H
      go_wp2
      go_ret
      exact ⟨rfl, rfl⟩

theorem index_yes (a : Option Addr) (n c : Nat) (L : List ByteArray) (x : ByteArray) (w : World) (hr : RowL w a L) (hn : n ≤ L.length) (hm : n ≤ 64) (h : ∃ j, j < n ∧ gt L j = x) :
    Calls Tryd.prog 87 #[.slice a n c, .string x] w fun e w' => (∃ j : Nat, e = .returned (.int .i64 j)) ∧ w' = w := by
  have H : Hd (∃ j, j < n ∧ gt L j = x) := ⟨h⟩
  clear h
  go_enter Tryd.func87, Tryd.ntmps87
  go_wp2
  go_loop [8] (fun i => ∃ k : Nat, k ≤ n ∧ i = .int .i64 k ∧ Hd (∀ j, j < k → gt L j ≠ x)) (fun i => n - (intOf i).toNat)
  case atStart => exact ⟨0, Nat.zero_le _, rfl, ⟨fun j h => absurd h (Nat.not_lt_zero _)⟩⟩
  case round =>
    obtain ⟨k, hk, rfl, hK⟩ := hrel
    by_cases hlt : k < n
    · obtain ⟨b, off, rfl, hb, hc⟩ := hr (by omega)
      have hcell := hc k (by omega)
      by_cases e : x = gt L k
      · rw [← e] at hcell
        clear hc hr H hK e
        go_wp2
        go_ret
        exact ⟨⟨k, rfl⟩, rfl⟩
      · have ne := str_ne e
        have hK' : Hd (∀ j, j < k + 1 → gt L j ≠ x) := ⟨fun j hj => by
          by_cases ej : j = k
          · subst ej; exact Ne.symm e
          · exact hK.out j (by omega)⟩
        clear hc hr H hK e
        go_wp2
        go_round
        case rel => exact ⟨k + 1, by omega, by go_num, hK'⟩
        case measure => simp [intOf]; omega
    · obtain ⟨j, hj, e⟩ := H.out
      exact absurd e (hK.out j (by omega))

theorem contains_no (a : Option Addr) (n c : Nat) (L : List ByteArray) (x : ByteArray) (w : World) (hr : RowL w a L) (hn : n ≤ L.length) (hm : n ≤ 64) (h : ∀ j, j < n → gt L j ≠ x) :
    Calls Tryd.prog 74 #[.slice a n c, .string x] w fun e w' => e = .returned (.bool false) ∧ w' = w := by
  have I := index_no a n c L x w hr hn hm h
  clear h
  go_enter Tryd.func74, Tryd.ntmps74
  go_wp2_with (go_at_call 87; refine I.mono ?_; rintro e w' ⟨rfl, hw⟩; obtain rfl := hw.symm)
  go_ret
  exact ⟨rfl, rfl⟩
theorem contains_yes (a : Option Addr) (n c : Nat) (L : List ByteArray) (x : ByteArray) (w : World) (hr : RowL w a L) (hn : n ≤ L.length) (hm : n ≤ 64) (h : ∃ j, j < n ∧ gt L j = x) :
    Calls Tryd.prog 74 #[.slice a n c, .string x] w fun e w' => e = .returned (.bool true) ∧ w' = w := by
  have I := index_yes a n c L x w hr hn hm h
  clear h
  go_enter Tryd.func74, Tryd.ntmps74
  go_wp2_with (go_at_call 87; refine I.mono ?_; rintro e w' ⟨⟨j, rfl⟩, hw⟩; obtain rfl := hw.symm)
  go_ret
  exact ⟨by simp, rfl⟩

/-- The first n texts of a list are words, and unlike. -/
def Unl (L : List ByteArray) (n : Nat) : Prop := ∀ i, i < n → isWord (gt L i) = true ∧ ∀ j, j < i → gt L j ≠ gt L i
/-- May these be the words of a list that is written out? -/
def Good (L : List ByteArray) : Prop := L.length ≤ 8 ∧ Unl L L.length
def good (L : List ByteArray) : Bool := decide (L.length ≤ 8) && (List.range L.length).all fun i => isWord (gt L i) && (List.range i).all fun j => decide (gt L j ≠ gt L i)
theorem good_iff {L : List ByteArray} : good L = true ↔ Good L := by
  unfold good Good Unl
  simp only [Bool.and_eq_true, decide_eq_true_eq, List.all_eq_true, List.mem_range]
theorem good_yes {L : List ByteArray} (h : Good L) : good L = true := good_iff.2 h
theorem good_no {L : List ByteArray} (h : ¬ Good L) : good L = false := by
  cases hg : good L with
  | false => rfl
  | true => exact absurd (good_iff.1 hg) h

/-- Each text has a length that a machine knows. -/
def Short (L : List ByteArray) : Prop := ∀ k, k < L.length → (gt L k).size ≤ 9223372036854775807

theorem unlike_ok (a : Option Addr) (c : Nat) (L : List ByteArray) (w : World) (hr : RowL w a L) (hs : Short L) (hc : L.length ≤ c) (hn : L.length ≤ 9223372036854775807) :
    Calls Tryd.prog 58 #[.slice a L.length c] w fun e w' => e = .returned (.bool (good L)) ∧ w' = w := by
  obtain ⟨n, hL⟩ : ∃ n, L.length = n := ⟨_, rfl⟩
  by_cases h8 : n ≤ 8
  · have HG : Hd (Good L ↔ Unl L n) := ⟨by unfold Good; rw [hL]; exact ⟨fun h => h.2, fun h => ⟨h8, h⟩⟩⟩
    have HS : Hd (∀ k, k < n → (gt L k).size ≤ 9223372036854775807) := ⟨by rw [← hL]; exact hs⟩
    have HL : Hd (L.length = n) := ⟨hL⟩
    rw [hL] at hc hn ⊢
    clear hs hL
    go_enter Tryd.func58, Tryd.ntmps58
    go_wp2
    go_loop [10] (fun i => ∃ k : Nat, k ≤ n ∧ i = .int .i64 k ∧ Hd (Unl L k)) (fun i => n - (intOf i).toNat)
    case atStart => exact ⟨0, Nat.zero_le _, rfl, ⟨fun i h => absurd h (Nat.not_lt_zero _)⟩⟩
    case round =>
      obtain ⟨k, hk, rfl, hU⟩ := hrel
      by_cases hlt : k < n
      · have hlt' : k < L.length := by rw [HL.out]; exact hlt
        have hr2 := hr
        obtain ⟨b, off, rfl, hb, hcs⟩ := hr (by omega)
        have hcell := hcs k hlt'
        have W := word_ok (gt L k) (HS.out k hlt)
        have CN := contains_no (some ⟨b, off, none⟩) k c L (gt L k) w hr2 (by omega) (by omega)
        have CY := contains_yes (some ⟨b, off, none⟩) k c L (gt L k) w hr2 (by omega) (by omega)
        clear hr hr2 hcs
        cases hw : isWord (gt L k) with
        | false =>
          have no : good L = false := good_no fun h => by
            have := (HG.out.1 h k hlt).1
            rw [hw] at this
            cases this
          rw [hw] at W
          clear HG HS CN CY hU hw
          generalize gt L k = x at *
          go_wp2_with (first
            | (go_at_call 69; refine (W _).mono ?_; rintro e w' ⟨rfl, hw⟩; obtain rfl := hw.symm))
          go_ret
          exact ⟨by rw [no]; rfl, rfl⟩
        | true =>
          rw [hw] at W
          by_cases hd : ∃ j, j < k ∧ gt L j = gt L k
          · have C := CY hd
            have no : good L = false := good_no fun h => by
              obtain ⟨j, hj, e⟩ := hd
              exact (HG.out.1 h k hlt).2 j hj e
            clear HG HS CN CY hU hw hd
            generalize gt L k = x at *
            go_wp2_with (first
              | (go_at_call 69; refine (W _).mono ?_; rintro e w' ⟨rfl, hw⟩; obtain rfl := hw.symm)
              | (go_at_call 74; refine C.mono ?_; rintro e w' ⟨rfl, hw⟩; obtain rfl := hw.symm))
            go_ret
            exact ⟨by rw [no]; rfl, rfl⟩
          · have hd' : ∀ j, j < k → gt L j ≠ gt L k := fun j hj e => hd ⟨j, hj, e⟩
            have C := CN hd'
            have hU' : Hd (Unl L (k + 1)) := ⟨fun i hi => by
              by_cases ei : i = k
              · subst ei; exact ⟨hw, hd'⟩
              · exact hU.out i (by omega)⟩
            clear HG HS CN CY hU hw hd hd'
            generalize gt L k = x at *
            go_wp2_with (first
              | (go_at_call 69; refine (W _).mono ?_; rintro e w' ⟨rfl, hw⟩; obtain rfl := hw.symm)
              | (go_at_call 74; refine C.mono ?_; rintro e w' ⟨rfl, hw⟩; obtain rfl := hw.symm))
            go_round
            case rel => exact ⟨k + 1, by omega, by go_num, hU'⟩
            case measure => simp [intOf]; omega
      · obtain rfl : k = n := by omega
        have yes : good L = true := good_yes (HG.out.2 hU.out)
        clear hr HG HS hU
        go_wp2
        go_ret
        exact ⟨rfl, rfl⟩
  · have no : good L = false := good_no fun h => h8 (by rw [← hL]; exact h.1)
    have h8' : (n : Int) > 8 := by omega
    rw [no, hL]
    rw [hL] at hn
    clear hr hs
    go_enter Tryd.func58, Tryd.ntmps58
    go_wp2
    go_ret
    exact ⟨rfl, rfl⟩

end Go.Proofs.YtooaojegdhamjaaDoor
