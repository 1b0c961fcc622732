/-
  Lists of texts in memory; what 'Same' of the reference, 'slices.Index', 'slices.Contains' and 'unlikeWords' of the program answer.
  The pieces of a text between bytes of one kind.
  What 'Number' of the program answers.
-/
import Derived.Test.YtijjpblmnlednaaGreatDoorE1
namespace Go.Proofs.YtijjpblmnlednaaGreatDoor
open Go.RowKit
/-- The k-th text of a list. -/
def gt (L : List ByteArray) (k : Nat) : ByteArray := L.getD k ⟨#[]⟩
theorem gt_eq {L : List ByteArray} {k : Nat} (h : k < L.length) : gt L k = L[k] := by unfold gt; simp [h]
theorem gt_mem {L : List ByteArray} {k : Nat} (h : k < L.length) : gt L k ∈ L := by rw [gt_eq h]; exact List.getElem_mem h

/-- A list of texts that lies in memory. -/
def RowL (w : World) (a : Option Addr) (L : List ByteArray) : Prop :=
  0 < L.length → ∃ b off, a = some ⟨b, off, none⟩ ∧ b < w.heap.size ∧ ∀ k, k < L.length → w.cell? ⟨b, off + k, none⟩ = some (.string (gt L k))
theorem RowL.carry {w w' : World} {a : Option Addr} {L : List ByteArray} (h : RowL w a L) (g : Below w.heap.size w w') : RowL w' a L := by
  intro hn
  obtain ⟨b, off, e, hb, hc⟩ := h hn
  exact ⟨b, off, e, Nat.lt_of_lt_of_le hb g.size, fun k hk => (g.cell (p := ⟨b, off + k, none⟩) hb).trans (hc k hk)⟩

theorem str_ne {x y : ByteArray} (h : x ≠ y) : (x.toList == y.toList) = false := by
  rw [ByteArray.toList_eq, ByteArray.toList_eq]
  cases hb : (x.data.toList == y.data.toList) with
  | false => rfl
  | true =>
    have e := eq_of_beq hb
    exact absurd (ByteArray.ext (Array.toList_inj.1 e)) h

theorem index_no (a : Option Addr) (n c : Nat) (L : List ByteArray) (x : ByteArray) (w : World) (hr : RowL w a L) (hn : n ≤ L.length) (hm : n ≤ 64) (h : ∀ j, j < n → gt L j ≠ x) :
    Calls Tryz.prog 142 #[.slice a n c, .string x] w fun e w' => e = .returned (.int .i64 (-1)) ∧ w' = w := by
  have H : Hd (∀ j, j < n → gt L j ≠ x) := ⟨h⟩
  clear h
  go_enter Tryz.func142, Tryz.ntmps142
  go_wp2
  go_loop [8] (fun i => ∃ k : Nat, k ≤ n ∧ i = .int .i64 k) (fun i => n - (intOf i).toNat)
  case atStart => exact ⟨0, Nat.zero_le _, rfl⟩
  case round =>
    obtain ⟨k, hk, rfl⟩ := hrel
    by_cases hlt : k < n
    · obtain ⟨b, off, rfl, hb, hc⟩ := hr (by omega)
      have hcell := hc k (by omega)
      have ne := str_ne (Ne.symm (H.out k hlt))
      clear hc hr H
      generalize gt L k = y at *
      go_wp2
      go_round
      case rel => exact ⟨k + 1, by omega, by go_num⟩
      case measure => simp [intOf]; omega
    · obtain rfl : k = n := by omega
      clear hr H
      go_wp2
      go_ret
      exact ⟨rfl, rfl⟩

theorem index_yes (a : Option Addr) (n c : Nat) (L : List ByteArray) (x : ByteArray) (w : World) (hr : RowL w a L) (hn : n ≤ L.length) (hm : n ≤ 64) (h : ∃ j, j < n ∧ gt L j = x) :
    Calls Tryz.prog 142 #[.slice a n c, .string x] w fun e w' => (∃ j : Nat, e = .returned (.int .i64 j)) ∧ w' = w := by
  have H : Hd (∃ j, j < n ∧ gt L j = x) := ⟨h⟩
  clear h
  go_enter Tryz.func142, Tryz.ntmps142
  go_wp2
  go_loop [8] (fun i => ∃ k : Nat, k ≤ n ∧ i = .int .i64 k ∧ Hd (∀ j, j < k → gt L j ≠ x)) (fun i => n - (intOf i).toNat)
  case atStart => exact ⟨0, Nat.zero_le _, rfl, ⟨fun j h => absurd h (Nat.not_lt_zero _)⟩⟩
  case round =>
    obtain ⟨k, hk, rfl, hK⟩ := hrel
    by_cases hlt : k < n
    · obtain ⟨b, off, rfl, hb, hc⟩ := hr (by omega)
      have hcell := hc k (by omega)
      by_cases e : x = gt L k
      · rw [← e] at hcell
        clear hc hr H hK e
        go_wp2
        go_ret
        exact ⟨⟨k, rfl⟩, rfl⟩
      · have ne := str_ne e
        have hK' : Hd (∀ j, j < k + 1 → gt L j ≠ x) := ⟨fun j hj => by
          by_cases ej : j = k
          · subst ej; exact Ne.symm e
          · exact hK.out j (by omega)⟩
        clear hc hr H hK e
        go_wp2
        go_round
        case rel => exact ⟨k + 1, by omega, by go_num, hK'⟩
        case measure => simp [intOf]; omega
    · obtain ⟨j, hj, e⟩ := H.out
      exact absurd e (hK.out j (by omega))

theorem contains_no (a : Option Addr) (n c : Nat) (L : List ByteArray) (x : ByteArray) (w : World) (hr : RowL w a L) (hn : n ≤ L.length) (hm : n ≤ 64) (h : ∀ j, j < n → gt L j ≠ x) :
    Calls Tryz.prog 128 #[.slice a n c, .string x] w fun e w' => e = .returned (.bool false) ∧ w' = w := by
  have I := index_no a n c L x w hr hn hm h
  clear h
  go_enter Tryz.func128, Tryz.ntmps128
  go_wp2_with (go_at_call 142; refine I.mono ?_; rintro e w' ⟨rfl, hw⟩; obtain rfl := hw.symm)
  go_ret
  exact ⟨rfl, rfl⟩
theorem contains_yes (a : Option Addr) (n c : Nat) (L : List ByteArray) (x : ByteArray) (w : World) (hr : RowL w a L) (hn : n ≤ L.length) (hm : n ≤ 64) (h : ∃ j, j < n ∧ gt L j = x) :
    Calls Tryz.prog 128 #[.slice a n c, .string x] w fun e w' => e = .returned (.bool true) ∧ w' = w := by
  have I := index_yes a n c L x w hr hn hm h
  clear h
  go_enter Tryz.func128, Tryz.ntmps128
  go_wp2_with (go_at_call 142; refine I.mono ?_; rintro e w' ⟨⟨j, rfl⟩, hw⟩; obtain rfl := hw.symm)
  go_ret
  exact ⟨by simp, rfl⟩

/-- The first n texts of a list are words, and unlike. -/
def Unl (L : List ByteArray) (n : Nat) : Prop := ∀ i, i < n → isWord (gt L i) = true ∧ ∀ j, j < i → gt L j ≠ gt L i
/-- May these be the words of a list that is written out? -/
def Good (L : List ByteArray) : Prop := L.length ≤ 8 ∧ Unl L L.length
def good (L : List ByteArray) : Bool := decide (L.length ≤ 8) && (List.range L.length).all fun i => isWord (gt L i) && (List.range i).all fun j => decide (gt L j ≠ gt L i)
theorem good_iff {L : List ByteArray} : good L = true ↔ Good L := by
  unfold good Good Unl
  simp only [Bool.and_eq_true, decide_eq_true_eq, List.all_eq_true, List.mem_range]
theorem good_yes {L : List ByteArray} (h : Good L) : good L = true := good_iff.2 h
theorem good_no {L : List ByteArray} (h : ¬ Good L) : good L = false := by
  cases hg : good L with
  | false => rfl
  | true => exact absurd (good_iff.1 hg) h

/-- Each text has a length that a machine knows. -/
def Short (L : List ByteArray) : Prop := ∀ k, k < L.length → (gt L k).size ≤ 9223372036854775807

theorem unlike_ok (a : Option Addr) (c : Nat) (L : List ByteArray) (w : World) (hr : RowL w a L) (hs : Short L) (hc : L.length ≤ c) (hn : L.length ≤ 9223372036854775807) :
    Calls Tryz.prog 138 #[.slice a L.length c] w fun e w' => e = .returned (.bool (good L)) ∧ w' = w := by
  obtain ⟨n, hL⟩ : ∃ n, L.length = n := ⟨_, rfl⟩
  by_cases h8 : n ≤ 8
  · have HG : Hd (Good L ↔ Unl L n) := ⟨by unfold Good; rw [hL]; exact ⟨fun h => h.2, fun h => ⟨h8, h⟩⟩⟩
    have HS : Hd (∀ k, k < n → (gt L k).size ≤ 9223372036854775807) := ⟨by rw [← hL]; exact hs⟩
    have HL : Hd (L.length = n) := ⟨hL⟩
    rw [hL] at hc hn ⊢
    clear hs hL
    go_enter Tryz.func138, Tryz.ntmps138
    go_wp2
    go_loop [10] (fun i => ∃ k : Nat, k ≤ n ∧ i = .int .i64 k ∧ Hd (Unl L k)) (fun i => n - (intOf i).toNat)
    case atStart => exact ⟨0, Nat.zero_le _, rfl, ⟨fun i h => absurd h (Nat.not_lt_zero _)⟩⟩
    case round =>
      obtain ⟨k, hk, rfl, hU⟩ := hrel
      by_cases hlt : k < n
      · have hlt' : k < L.length := by rw [HL.out]; exact hlt
        have hr2 := hr
        obtain ⟨b, off, rfl, hb, hcs⟩ := hr (by omega)
        have hcell := hcs k hlt'
        have W := word_ok (gt L k) (HS.out k hlt)
        have CN := contains_no (some ⟨b, off, none⟩) k c L (gt L k) w hr2 (by omega) (by omega)
        have CY := contains_yes (some ⟨b, off, none⟩) k c L (gt L k) w hr2 (by omega) (by omega)
        clear hr hr2 hcs
        cases hw : isWord (gt L k) with
        | false =>
          have no : good L = false := good_no fun h => by
            have := (HG.out.1 h k hlt).1
            rw [hw] at this
            cases this
          rw [hw] at W
          clear HG HS CN CY hU hw
          generalize gt L k = x at *
          go_wp2_with (first
            | (go_at_call 147; refine (W _).mono ?_; rintro e w' ⟨rfl, hw⟩; obtain rfl := hw.symm))
          go_ret
          exact ⟨by rw [no]; rfl, rfl⟩
        | true =>
          rw [hw] at W
          by_cases hd : ∃ j, j < k ∧ gt L j = gt L k
          · have C := CY hd
            have no : good L = false := good_no fun h => by
              obtain ⟨j, hj, e⟩ := hd
              exact (HG.out.1 h k hlt).2 j hj e
            clear HG HS CN CY hU hw hd
            generalize gt L k = x at *
            go_wp2_with (first
              | (go_at_call 147; refine (W _).mono ?_; rintro e w' ⟨rfl, hw⟩; obtain rfl := hw.symm)
              | (go_at_call 128; refine C.mono ?_; rintro e w' ⟨rfl, hw⟩; obtain rfl := hw.symm))
            go_ret
            exact ⟨by rw [no]; rfl, rfl⟩
          · have hd' : ∀ j, j < k → gt L j ≠ gt L k := fun j hj e => hd ⟨j, hj, e⟩
            have C := CN hd'
            have hU' : Hd (Unl L (k + 1)) := ⟨fun i hi => by
              by_cases ei : i = k
              · subst ei; exact ⟨hw, hd'⟩
              · exact hU.out i (by omega)⟩
            clear HG HS CN CY hU hw hd hd'
            generalize gt L k = x at *
            go_wp2_with (first
              | (go_at_call 147; refine (W _).mono ?_; rintro e w' ⟨rfl, hw⟩; obtain rfl := hw.symm)
              | (go_at_call 128; refine C.mono ?_; rintro e w' ⟨rfl, hw⟩; obtain rfl := hw.symm))
            go_round
            case rel => exact ⟨k + 1, by omega, by go_num, hU'⟩
            case measure => simp [intOf]; omega
      · obtain rfl : k = n := by omega
        have yes : good L = true := good_yes (HG.out.2 hU.out)
        clear hr HG HS hU
        go_wp2
        go_ret
        exact ⟨rfl, rfl⟩
  · have no : good L = false := good_no fun h => h8 (by rw [← hL]; exact h.1)
    have h8' : (n : Int) > 8 := by omega
    rw [no, hL]
    rw [hL] at hn
    clear hr hs
    go_enter Tryz.func138, Tryz.ntmps138
    go_wp2
    go_ret
    exact ⟨rfl, rfl⟩
end Go.Proofs.YtijjpblmnlednaaGreatDoor

namespace Go.Proofs.YtijjpblmnlednaaGreatDoor
def cutL (c : UInt8) : List UInt8 → List (List UInt8)
  | [] => [[]]
  | b :: l => if b = c then [] :: cutL c l else (b :: (cutL c l).headD []) :: (cutL c l).tail

theorem cutL_ne (c : UInt8) : ∀ l, cutL c l ≠ []
  | [] => by simp [cutL]
  | b :: l => by unfold cutL; split <;> simp
theorem cutL_plain (c : UInt8) : ∀ l, c ∉ l → cutL c l = [l]
  | [], _ => rfl
  | b :: l, h => by
    have h1 : ¬ b = c := fun e => h (by rw [e]; exact List.mem_cons_self ..)
    have h2 : c ∉ l := fun e => h (List.mem_cons_of_mem _ e)
    unfold cutL
    rw [if_neg h1, cutL_plain c l h2]
    rfl
theorem cutL_at (c : UInt8) : ∀ (p r : List UInt8), c ∉ p → cutL c (p ++ c :: r) = p :: cutL c r
  | [], r, _ => by rw [List.nil_append, cutL, if_pos rfl]
  | b :: p, r, h => by
    have h1 : ¬ b = c := fun e => h (by rw [e]; exact List.mem_cons_self ..)
    have h2 : c ∉ p := fun e => h (List.mem_cons_of_mem _ e)
    rw [List.cons_append, cutL, if_neg h1, cutL_at c p r h2]
    rfl
theorem cutL_length (c : UInt8) : ∀ l, (cutL c l).length = l.count c + 1
  | [] => rfl
  | b :: l => by
    have ih := cutL_length c l
    unfold cutL
    by_cases h : b = c
    · subst h
      rw [if_pos rfl, List.length_cons, ih, List.count_cons_self]
    · rw [if_neg h, List.length_cons, List.length_tail, ih, List.count_cons_of_ne h]
      rfl

def mk (l : List UInt8) : ByteArray := ⟨l.toArray⟩
theorem mk_list (l : List UInt8) : (mk l).data.toList = l := by simp [mk]
theorem mk_of (s : ByteArray) : mk s.data.toList = s := by unfold mk; simp
theorem mk_inj {a b : List UInt8} (h : mk a = mk b) : a = b := by rw [← mk_list a, h, mk_list]
theorem list_inj {a b : ByteArray} (h : a.data.toList = b.data.toList) : a = b := by rw [← mk_of a, h, mk_of]

def cutB (c : UInt8) (s : ByteArray) : List ByteArray := (cutL c s.data.toList).map mk
theorem cutB_len (c : UInt8) (s : ByteArray) : (cutB c s).length = s.data.toList.count c + 1 := by unfold cutB; rw [List.length_map, cutL_length]

def neL (l : List UInt8) : Bool := !l.isEmpty
def wordsL (l : List UInt8) : List (List UInt8) := (cutL 32 l).filter neL
def wordsB (s : ByteArray) : List ByteArray := (wordsL s.data.toList).map mk

theorem wordsL_blank (l : List UInt8) : wordsL (32 :: l) = wordsL l := by
  unfold wordsL
  rw [cutL, if_pos rfl, List.filter_cons]
  rfl
theorem wordsL_at (p r : List UInt8) (h : (32 : UInt8) ∉ p) (hp : p ≠ []) : wordsL (p ++ 32 :: r) = p :: wordsL r := by
  unfold wordsL
  rw [cutL_at 32 p r h, List.filter_cons, if_pos (by unfold neL; cases p with | nil => exact absurd rfl hp | cons _ _ => rfl)]
theorem wordsL_end (p : List UInt8) (h : (32 : UInt8) ∉ p) (hp : p ≠ []) : wordsL p = [p] := by
  unfold wordsL
  rw [cutL_plain 32 p h, List.filter_cons, if_pos (by unfold neL; cases p with | nil => exact absurd rfl hp | cons _ _ => rfl)]
  rfl

def isBlank (r : Nat) : Bool := r == 32

theorem size_list (s : ByteArray) : s.data.toList.length = s.size := Array.length_toList

theorem no_blank {l : List UInt8} {a b : Nat} (h : ∀ j, a ≤ j → j < b → l[j]? ≠ some 32) : (32 : UInt8) ∉ (l.drop a).take (b - a) := fun hm => by
  obtain ⟨k, hk, e⟩ := List.getElem_of_mem hm
  rw [List.length_take, List.length_drop] at hk
  rw [List.getElem_take, List.getElem_drop] at e
  exact h (a + k) (by omega) (by omega) (by rw [List.getElem?_eq_getElem (by omega), e])
end Go.Proofs.YtijjpblmnlednaaGreatDoor

namespace Go.Proofs.YtijjpblmnlednaaGreatDoor
open Go.RowKit
/-- The number that digits are. -/
def valL (l : List UInt8) : Nat := l.foldl (fun n b => n * 10 + (b.toNat - 48)) 0
/-- That of the first k. -/
def valTo (s : ByteArray) (k : Nat) : Nat := valL (s.data.toList.take k)
theorem valTo_zero (s : ByteArray) : valTo s 0 = 0 := by unfold valTo; rw [List.take_zero]; rfl
theorem valTo_succ (s : ByteArray) (k : Nat) (h : k < s.size) : valTo s (k + 1) = valTo s k * 10 + (s[k].toNat - 48) := by
  unfold valTo valL
  rw [List.take_add_one, byte_at s k h, Option.toList_some, List.foldl_append]
  rfl
theorem valTo_all (s : ByteArray) : valTo s s.size = valL s.data.toList := by
  unfold valTo
  rw [List.take_of_length_le (by rw [Array.length_toList]; exact Nat.le_refl _)]
theorem valTo_lt (s : ByteArray) (hd : allB isDigit s = true) : ∀ k, k ≤ s.size → valTo s k < 10 ^ k
  | 0, _ => by rw [valTo_zero]; decide
  | k + 1, h => by
    have ih := valTo_lt s hd k (by omega)
    have := (allB_iff _ _).1 hd k (by omega)
    unfold isDigit at this
    have hb : s[k].toNat - 48 ≤ 9 := by simp at this; omega
    rw [valTo_succ s k (by omega), Nat.pow_succ]
    omega

/-- Is it a number? -/
def isNum (s : ByteArray) : Bool := !(decide (9 < s.size) || (!(allB isDigit s && !decide (s.size = 0)) || (if h : 1 < s.size then (s[0].toNat : Int) == 48 else false)))
/-- The number within bounds. -/
def numIn (s : ByteArray) (least most : Int) : Bool := isNum s && (decide (least ≤ (valL s.data.toList : Int)) && decide ((valL s.data.toList : Int) ≤ most))
def numOf (s : ByteArray) (least most : Int) : Int := if numIn s least most then (valL s.data.toList : Int) else 0


theorem isNum_parts {s : ByteArray} (h : isNum s = true) : s.size ≤ 9 ∧ allB isDigit s = true ∧ 1 ≤ s.size ∧ ∀ h1 : 1 < s.size, ((s[0].toNat : Int) == 48) = false := by
  unfold isNum at h
  simp only [Bool.not_eq_true', Bool.or_eq_false_iff, decide_eq_false_iff_not, Bool.not_eq_false', Bool.and_eq_true] at h
  obtain ⟨h1, ⟨h2, h3⟩, h4⟩ := h
  refine ⟨by omega, h2, by omega, fun hh => ?_⟩
  rw [dif_pos hh] at h4
  exact h4
end Go.Proofs.YtijjpblmnlednaaGreatDoor
