/-
  What the small functions of the program answer that ask what a byte is, and 'made', 'Name', 'Word'. No condition but that a text has a length.
  Lists of texts in memory; what 'Same' of the reference, 'slices.Index', 'slices.Contains' and 'unlikeWords' of the program answer. Conditions: the lists lie in memory.
  What 'Number' of the program answers. No condition but that a text has a length.
  The pieces of a text between bytes of one kind. No condition.
  What a configuration's lines tell: the mathematics of 'conf.Parse'.
  That strings.Split's and strings.FieldsFunc's pieces are these. No condition.
-/
import Derived.Test.YtaodckojinbdfaaGreatDoorRows
import Derived.ProofKit
import Derived.OpenShut
import Derived.Below
import Derived.BigQuiet
import Derived.OwnWalk
import Derived.Deep.QuietTactic
import Derived.Deep.DeepMust
import Derived.WalkKit
import Derived.Shelf.Abstract
import Derived.Lib.FieldsP
import Derived.Lib.SplitLaws
import Derived.Lib.Split
namespace Go.Proofs.YtaodckojinbdfaaGreatDoor
open Go.RowKit

/-- A fact that no rule may use. -/
structure Hd (p : Prop) : Prop where
  out : p

def intOf : Value → Int
  | .int _ n => n
  | _ => 0

def isDigit (n : Int) : Bool := decide (48 ≤ n ∧ n ≤ 57)
def isSmall (n : Int) : Bool := decide (97 ≤ n ∧ n ≤ 122)
def isGreat (n : Int) : Bool := decide (65 ≤ n ∧ n ≤ 90)
def isNameB (n : Int) : Bool := isSmall n || (isDigit n || n == 45)
def isWordB (n : Int) : Bool := (n == 46 || (n == 95 || (n == 58 || (n == 47 || (n == 64 || n == 45))))) || (isSmall n || (isGreat n || isDigit n))

/-- Every byte of a text is of one kind. -/
def allB (p : Int → Bool) (s : ByteArray) : Bool := s.data.toList.all fun b => p (b.toNat : Int)

theorem byte_at (s : ByteArray) (k : Nat) (h : k < s.size) : s.data.toList[k]? = some s[k] := by
  have hl : k < s.data.toList.length := by rw [Array.length_toList]; exact h
  rw [List.getElem?_eq_getElem hl]
  rfl
theorem allB_iff (p : Int → Bool) (s : ByteArray) : allB p s = true ↔ ∀ k (h : k < s.size), p (s[k].toNat : Int) = true := by
  unfold allB
  rw [List.all_eq_true]
  constructor
  · intro h k hk
    exact h _ (List.mem_of_getElem? (byte_at s k hk))
  · intro h b hb
    obtain ⟨k, hk, rfl⟩ := List.getElem_of_mem hb
    have hk' : k < s.size := by rw [Array.length_toList] at hk; exact hk
    exact h k hk'
theorem allB_no {p : Int → Bool} {s : ByteArray} (k : Nat) (h : k < s.size) (hp : p (s[k].toNat : Int) = false) : allB p s = false := by
  cases hA : allB p s with
  | false => rfl
  | true => have := (allB_iff p s).1 hA k h; rw [hp] at this; cases this

theorem digit_ok (n : Int) (w : World) : Calls Tryz.prog 81 #[.int .u8 n] w fun e w' => e = .returned (.bool (isDigit n)) ∧ w' = w := by
  by_cases h1 : 48 ≤ n <;> by_cases h2 : n ≤ 57
  all_goals first | (exfalso; omega) | skip
  all_goals
    go_enter Tryz.func81, Tryz.ntmps81
    go_wp2
    go_ret
    refine ⟨?_, rfl⟩
    simp [isDigit, h1, h2]
theorem small_ok (n : Int) (w : World) : Calls Tryz.prog 83 #[.int .u8 n] w fun e w' => e = .returned (.bool (isSmall n)) ∧ w' = w := by
  by_cases h1 : 97 ≤ n <;> by_cases h2 : n ≤ 122
  all_goals first | (exfalso; omega) | skip
  all_goals
    go_enter Tryz.func83, Tryz.ntmps83
    go_wp2
    go_ret
    refine ⟨?_, rfl⟩
    simp [isSmall, h1, h2]
theorem great_ok (n : Int) (w : World) : Calls Tryz.prog 99 #[.int .u8 n] w fun e w' => e = .returned (.bool (isGreat n)) ∧ w' = w := by
  by_cases h1 : 65 ≤ n <;> by_cases h2 : n ≤ 90
  all_goals first | (exfalso; omega) | skip
  all_goals
    go_enter Tryz.func99, Tryz.ntmps99
    go_wp2
    go_ret
    refine ⟨?_, rfl⟩
    simp [isGreat, h1, h2]

theorem nameSign_ok (n : Int) (w : World) : Calls Tryz.prog 82 #[.int .u8 n] w fun e w' => e = .returned (.bool (isNameB n)) ∧ w' = w := by
  by_cases h3 : n = 45
  · subst h3
    have A := small_ok 45
    have B := digit_ok 45
    rw [show isSmall 45 = false from rfl] at A
    rw [show isDigit 45 = false from rfl] at B
    go_enter Tryz.func82, Tryz.ntmps82
    go_wp2_with (first
      | (go_at_call 83; refine (A _).mono ?_; rintro e w' ⟨rfl, hw⟩; obtain rfl := hw.symm)
      | (go_at_call 81; refine (B _).mono ?_; rintro e w' ⟨rfl, hw⟩; obtain rfl := hw.symm))
    go_ret
    exact ⟨rfl, rfl⟩
  have A := small_ok n
  have B := digit_ok n
  cases h1 : isSmall n <;> rw [h1] at A <;> cases h2 : isDigit n <;> rw [h2] at B
  all_goals
    go_enter Tryz.func82, Tryz.ntmps82
    go_wp2_with (first
      | (go_at_call 83; refine (A _).mono ?_; rintro e w' ⟨rfl, hw⟩; obtain rfl := hw.symm)
      | (go_at_call 81; refine (B _).mono ?_; rintro e w' ⟨rfl, hw⟩; obtain rfl := hw.symm))
    go_ret
    refine ⟨?_, rfl⟩
    have h4 : (n == 45) = false := by simpa using h3
    unfold isNameB
    rw [h1, h2, h4]
    rfl

theorem wordSign_ok (n : Int) (w : World) : Calls Tryz.prog 97 #[.int .u8 n] w fun e w' => e = .returned (.bool (isWordB n)) ∧ w' = w := by
  have A := small_ok n
  have B := digit_ok n
  have C := great_ok n
  by_cases t1 : n = 46
  · subst t1
    go_enter Tryz.func97, Tryz.ntmps97
    go_wp2_with fail
    go_ret; exact ⟨rfl, rfl⟩
  by_cases t2 : n = 95
  · subst t2
    go_enter Tryz.func97, Tryz.ntmps97
    go_wp2_with fail
    go_ret; exact ⟨rfl, rfl⟩
  by_cases t3 : n = 58
  · subst t3
    go_enter Tryz.func97, Tryz.ntmps97
    go_wp2_with fail
    go_ret; exact ⟨rfl, rfl⟩
  by_cases t4 : n = 47
  · subst t4
    go_enter Tryz.func97, Tryz.ntmps97
    go_wp2_with fail
    go_ret; exact ⟨rfl, rfl⟩
  by_cases t5 : n = 64
  · subst t5
    go_enter Tryz.func97, Tryz.ntmps97
    go_wp2_with fail
    go_ret; exact ⟨rfl, rfl⟩
  by_cases t6 : n = 45
  · subst t6
    go_enter Tryz.func97, Tryz.ntmps97
    go_wp2_with fail
    go_ret; exact ⟨rfl, rfl⟩
  cases h1 : isSmall n <;> rw [h1] at A <;> cases h2 : isGreat n <;> rw [h2] at C <;> cases h3 : isDigit n <;> rw [h3] at B
  all_goals
    go_enter Tryz.func97, Tryz.ntmps97
    go_wp2_with (first
      | (go_at_call 83; refine (A _).mono ?_; rintro e w' ⟨rfl, hw⟩; obtain rfl := hw.symm)
      | (go_at_call 81; refine (B _).mono ?_; rintro e w' ⟨rfl, hw⟩; obtain rfl := hw.symm)
      | (go_at_call 99; refine (C _).mono ?_; rintro e w' ⟨rfl, hw⟩; obtain rfl := hw.symm))
    go_ret
    refine ⟨?_, rfl⟩
    simp [isWordB, h1, h2, h3, t1, t2, t3, t4, t5, t6]

/-- A function value that answers what a byte is. -/
def Asks (g : Nat) (p : Int → Bool) : Prop :=
  (∀ args w, (callFunc g args).run Tryz.prog w = .ok (.enter g args) w) ∧ ∀ (n : Int) (w : World), Calls Tryz.prog g #[.int .u8 n] w fun e w' => e = .returned (.bool (p n)) ∧ w' = w

theorem made_ok (g : Nat) (p : Int → Bool) (hg : Asks g p) (s : ByteArray) (hs : s.size ≤ 9223372036854775807) (w : World) :
    Calls Tryz.prog 80 #[.string s, .func (.func g) #[] #[]] w fun e w' => e = .returned (.bool (allB p s && !s.toList.isEmpty)) ∧ w' = w := by
  obtain ⟨eg, H⟩ := hg
  go_enter Tryz.func80, Tryz.ntmps80
  go_wp2
  go_loop [8] (fun i => ∃ k : Nat, k ≤ s.size ∧ i = .int .i64 k ∧ ∀ j (h : j < s.size), j < k → p (s[j].toNat : Int) = true) (fun i => s.size - (intOf i).toNat)
  case atStart => exact ⟨0, Nat.zero_le _, rfl, fun j _ h => absurd h (Nat.not_lt_zero _)⟩
  case round =>
    obtain ⟨k, hk, rfl, hp⟩ := hrel
    by_cases hlt : k < s.size
    · have C := H (s[k].toNat : Int)
      cases hpk : p (s[k].toNat : Int) <;> rw [hpk] at C
      · go_wp2_with (go_at_fn g; refine (C _).mono ?_; rintro e w' ⟨rfl, hw⟩; obtain rfl := hw.symm)
        go_ret
        exact ⟨by rw [allB_no k hlt hpk]; rfl, rfl⟩
      · go_wp2_with (go_at_fn g; refine (C _).mono ?_; rintro e w' ⟨rfl, hw⟩; obtain rfl := hw.symm)
        go_round
        case rel =>
          refine ⟨k + 1, by omega, by go_num, fun j h hj => ?_⟩
          by_cases e : j = k
          · subst e; exact hpk
          · exact hp j h (by omega)
        case measure => simp [intOf]; omega
    · obtain rfl : k = s.size := by omega
      have hA : allB p s = true := (allB_iff p s).2 fun j h => hp j h h
      go_wp2
      go_ret
      exact ⟨rfl, rfl⟩

theorem empty_eq (s : ByteArray) : s.toList.isEmpty = decide (s.size = 0) := by
  rw [ByteArray.toList_eq]
  have : s.size = s.data.toList.length := Array.length_toList.symm
  rw [this]
  cases s.data.toList <;> simp
/-- Is it a word? -/
def isWord (s : ByteArray) : Bool := decide (s.size ≤ 64) && (allB isWordB s && (!decide (s.size = 0) && !(s.toList == [45])))
/-- Is it a name? -/
def isName (s : ByteArray) : Bool := decide (s.size ≤ 32) && (allB isNameB s && (if h : 0 < s.size then isSmall (s[0].toNat : Int) else false))

theorem ask_digit : Asks 81 isDigit := ⟨enters_of Tryz.func81 (by kernel_rfl) rfl, digit_ok⟩
theorem ask_name : Asks 82 isNameB := ⟨enters_of Tryz.func82 (by kernel_rfl) rfl, nameSign_ok⟩
theorem ask_word : Asks 97 isWordB := ⟨enters_of Tryz.func97 (by kernel_rfl) rfl, wordSign_ok⟩

theorem word_ok (s : ByteArray) (hs : s.size ≤ 9223372036854775807) (w : World) :
    Calls Tryz.prog 92 #[.string s] w fun e w' => e = .returned (.bool (isWord s)) ∧ w' = w := by
  have M := made_ok 97 _ ask_word s hs
  rw [empty_eq] at M
  by_cases h1 : s.size ≤ 64
  · have d1 : decide (s.size ≤ 64) = true := by simpa using h1
    cases h2 : (allB isWordB s && !decide (s.size = 0)) <;> rw [h2] at M
    all_goals
      go_enter Tryz.func92, Tryz.ntmps92
      go_wp2_with (go_at_call 80; refine (M _).mono ?_; rintro e w' ⟨rfl, hw⟩; obtain rfl := hw.symm)
      go_ret
      refine ⟨?_, rfl⟩
      unfold isWord
      rw [← Bool.and_assoc (allB isWordB s), h2, d1]
      rfl
  · have d1 : decide (s.size ≤ 64) = false := by simpa using h1
    go_enter Tryz.func92, Tryz.ntmps92
    go_wp2_with fail
    go_ret
    refine ⟨?_, rfl⟩
    unfold isWord
    rw [d1]
    rfl

theorem name_ok (s : ByteArray) (hs : s.size ≤ 9223372036854775807) (w : World) :
    Calls Tryz.prog 68 #[.string s] w fun e w' => e = .returned (.bool (isName s)) ∧ w' = w := by
  have M := made_ok 82 _ ask_name s hs
  rw [empty_eq] at M
  by_cases h1 : s.size ≤ 32
  · have d1 : decide (s.size ≤ 32) = true := by simpa using h1
    by_cases h3 : s.size = 0
    · have d3 : decide (s.size = 0) = true := by simpa using h3
      rw [d3, Bool.not_true, Bool.and_false] at M
      go_enter Tryz.func68, Tryz.ntmps68
      go_wp2_with (go_at_call 80; refine (M _).mono ?_; rintro e w' ⟨rfl, hw⟩; obtain rfl := hw.symm)
      go_ret
      refine ⟨?_, rfl⟩
      unfold isName
      rw [dif_neg (by omega), Bool.and_false, Bool.and_false]
      rfl
    · have d3 : decide (s.size = 0) = false := by simpa using h3
      rw [d3, Bool.not_false, Bool.and_true] at M
      have h0 : 0 < s.size := by omega
      have S := small_ok (s[0].toNat : Int)
      cases h2 : allB isNameB s <;> rw [h2] at M
      · go_enter Tryz.func68, Tryz.ntmps68
        go_wp2_with (go_at_call 80; refine (M _).mono ?_; rintro e w' ⟨rfl, hw⟩; obtain rfl := hw.symm)
        go_ret
        refine ⟨?_, rfl⟩
        unfold isName
        rw [h2, Bool.false_and, Bool.and_false]
        rfl
      · go_enter Tryz.func68, Tryz.ntmps68
        go_wp2_with (first
          | (go_at_call 80; refine (M _).mono ?_; rintro e w' ⟨rfl, hw⟩; obtain rfl := hw.symm)
          | (go_at_call 83; refine (S _).mono ?_; rintro e w' ⟨rfl, hw⟩; obtain rfl := hw.symm))
        go_ret
        refine ⟨?_, rfl⟩
        unfold isName
        rw [h2, d1, dif_pos h0]
        rfl
  · have d1 : decide (s.size ≤ 32) = false := by simpa using h1
    go_enter Tryz.func68, Tryz.ntmps68
    go_wp2_with fail
    go_ret
    refine ⟨?_, rfl⟩
    unfold isName
    rw [d1]
    rfl

end Go.Proofs.YtaodckojinbdfaaGreatDoor

namespace Go.Proofs.YtaodckojinbdfaaGreatDoor
open Go.RowKit

/-- The k-th text of a list. -/
def gt (L : List ByteArray) (k : Nat) : ByteArray := L.getD k ⟨#[]⟩
theorem gt_eq {L : List ByteArray} {k : Nat} (h : k < L.length) : gt L k = L[k] := by unfold gt; simp [h]
theorem gt_mem {L : List ByteArray} {k : Nat} (h : k < L.length) : gt L k ∈ L := by rw [gt_eq h]; exact List.getElem_mem h

/-- A list of texts that lies in memory. -/
def RowL (w : World) (a : Option Addr) (L : List ByteArray) : Prop :=
  0 < L.length → ∃ b off, a = some ⟨b, off, none⟩ ∧ b < w.heap.size ∧ ∀ k, k < L.length → w.cell? ⟨b, off + k, none⟩ = some (.string (gt L k))
theorem RowL.carry {w w' : World} {a : Option Addr} {L : List ByteArray} (h : RowL w a L) (g : Below w.heap.size w w') : RowL w' a L := by
  intro hn
  obtain ⟨b, off, e, hb, hc⟩ := h hn
  exact ⟨b, off, e, Nat.lt_of_lt_of_le hb g.size, fun k hk => (g.cell (p := ⟨b, off + k, none⟩) hb).trans (hc k hk)⟩

theorem str_ne {x y : ByteArray} (h : x ≠ y) : (x.toList == y.toList) = false := by
  rw [ByteArray.toList_eq, ByteArray.toList_eq]
  cases hb : (x.data.toList == y.data.toList) with
  | false => rfl
  | true =>
    have e := eq_of_beq hb
    exact absurd (ByteArray.ext (Array.toList_inj.1 e)) h

theorem same_yes (a b : Option Addr) (c1 c2 : Nat) (L M : List ByteArray) (w : World) (h1 : RowL w a L) (h2 : RowL w b M) (hn : L.length ≤ 9223372036854775807) (h : L = M) :
    Calls Tryz.prog 39 #[.slice a L.length c1, .slice b M.length c2] w fun e w' => e = .returned (.bool true) ∧ Below w.heap.size w w' := by
  subst h
  obtain ⟨n, hL⟩ : ∃ n, L.length = n := ⟨_, rfl⟩
  rw [hL] at hn ⊢
  have g1 : 0 < n → ∃ b off, a = some ⟨b, off, none⟩ ∧ b < w.heap.size ∧ ∀ k, k < n → w.cell? ⟨b, off + k, none⟩ = some (.string (gt L k)) := by rw [← hL]; exact h1
  have g2 : 0 < n → ∃ c off, b = some ⟨c, off, none⟩ ∧ c < w.heap.size ∧ ∀ k, k < n → w.cell? ⟨c, off + k, none⟩ = some (.string (gt L k)) := by rw [← hL]; exact h2
  clear h1 h2 hL
  go_enter Tryz.func39, Tryz.ntmps39
  go_wp2
  go_loopw [5] (fun i wr => ∃ k : Nat, k ≤ n ∧ i = .int .i64 k ∧ Below w.heap.size w wr) (fun i _ => n - (intOf i).toNat)
  case atStart => exact ⟨0, Nat.zero_le _, rfl, Below.refl _ _⟩
  case round =>
    obtain ⟨k, hk, rfl, p3⟩ := hrel
    by_cases hlt : k < n
    · obtain ⟨b1, o1, rfl, hb1, hc1⟩ := g1 (by omega)
      obtain ⟨b2, o2, rfl, hb2, hc2⟩ := g2 (by omega)
      have d1 := (p3.cell (p := ⟨b1, o1 + k, none⟩) hb1).trans (hc1 k hlt)
      have d2 := (p3.cell (p := ⟨b2, o2 + k, none⟩) hb2).trans (hc2 k hlt)
      clear g1 g2 hc1 hc2
      generalize gt L k = x at *
      go_wp2
      go_quiet (fail)
      go_wp2
      go_roundw
      case rel => exact ⟨k + 1, by omega, by go_num, ⟨p3.os, p3.tape, p3.output, p3.size, p3.block⟩⟩
      case measure => simp [intOf]; omega
    · obtain rfl : k = n := by omega
      clear g1 g2
      go_wp2
      go_ret
      exact ⟨rfl, p3⟩

theorem index_no (a : Option Addr) (n c : Nat) (L : List ByteArray) (x : ByteArray) (w : World) (hr : RowL w a L) (hn : n ≤ L.length) (hm : n ≤ 64) (h : ∀ j, j < n → gt L j ≠ x) :
    Calls Tryz.prog 98 #[.slice a n c, .string x] w fun e w' => e = .returned (.int .i64 (-1)) ∧ w' = w := by
  have H : Hd (∀ j, j < n → gt L j ≠ x) := ⟨h⟩
  clear h
  go_enter Tryz.func98, Tryz.ntmps98
  go_wp2
  go_loop [8] (fun i => ∃ k : Nat, k ≤ n ∧ i = .int .i64 k) (fun i => n - (intOf i).toNat)
  case atStart => exact ⟨0, Nat.zero_le _, rfl⟩
  case round =>
    obtain ⟨k, hk, rfl⟩ := hrel
    by_cases hlt : k < n
    · obtain ⟨b, off, rfl, hb, hc⟩ := hr (by omega)
      have hcell := hc k (by omega)
      have ne := str_ne (Ne.symm (H.out k hlt))
      clear hc hr H
      generalize gt L k = y at *
      go_wp2
      go_round
      case rel => exact ⟨k + 1, by omega, by go_num⟩
      case measure => simp [intOf]; omega
    · obtain rfl : k = n := by omega
      clear hr H
      go_wp2
      go_ret
      exact ⟨rfl, rfl⟩

theorem index_yes (a : Option Addr) (n c : Nat) (L : List ByteArray) (x : ByteArray) (w : World) (hr : RowL w a L) (hn : n ≤ L.length) (hm : n ≤ 64) (h : ∃ j, j < n ∧ gt L j = x) :
    Calls Tryz.prog 98 #[.slice a n c, .string x] w fun e w' => (∃ j : Nat, e = .returned (.int .i64 j)) ∧ w' = w := by
  have H : Hd (∃ j, j < n ∧ gt L j = x) := ⟨h⟩
  clear h
  go_enter Tryz.func98, Tryz.ntmps98
  go_wp2
  go_loop [8] (fun i => ∃ k : Nat, k ≤ n ∧ i = .int .i64 k ∧ Hd (∀ j, j < k → gt L j ≠ x)) (fun i => n - (intOf i).toNat)
  case atStart => exact ⟨0, Nat.zero_le _, rfl, ⟨fun j h => absurd h (Nat.not_lt_zero _)⟩⟩
  case round =>
    obtain ⟨k, hk, rfl, hK⟩ := hrel
    by_cases hlt : k < n
    · obtain ⟨b, off, rfl, hb, hc⟩ := hr (by omega)
      have hcell := hc k (by omega)
      by_cases e : x = gt L k
      · rw [← e] at hcell
        clear hc hr H hK e
        go_wp2
        go_ret
        exact ⟨⟨k, rfl⟩, rfl⟩
      · have ne := str_ne e
        have hK' : Hd (∀ j, j < k + 1 → gt L j ≠ x) := ⟨fun j hj => by
          by_cases ej : j = k
          · subst ej; exact Ne.symm e
          · exact hK.out j (by omega)⟩
        clear hc hr H hK e
        go_wp2
        go_round
        case rel => exact ⟨k + 1, by omega, by go_num, hK'⟩
        case measure => simp [intOf]; omega
    · obtain ⟨j, hj, e⟩ := H.out
      exact absurd e (hK.out j (by omega))

theorem contains_no (a : Option Addr) (n c : Nat) (L : List ByteArray) (x : ByteArray) (w : World) (hr : RowL w a L) (hn : n ≤ L.length) (hm : n ≤ 64) (h : ∀ j, j < n → gt L j ≠ x) :
    Calls Tryz.prog 93 #[.slice a n c, .string x] w fun e w' => e = .returned (.bool false) ∧ w' = w := by
  have I := index_no a n c L x w hr hn hm h
  clear h
  go_enter Tryz.func93, Tryz.ntmps93
  go_wp2_with (go_at_call 98; refine I.mono ?_; rintro e w' ⟨rfl, hw⟩; obtain rfl := hw.symm)
  go_ret
  exact ⟨rfl, rfl⟩
theorem contains_yes (a : Option Addr) (n c : Nat) (L : List ByteArray) (x : ByteArray) (w : World) (hr : RowL w a L) (hn : n ≤ L.length) (hm : n ≤ 64) (h : ∃ j, j < n ∧ gt L j = x) :
    Calls Tryz.prog 93 #[.slice a n c, .string x] w fun e w' => e = .returned (.bool true) ∧ w' = w := by
  have I := index_yes a n c L x w hr hn hm h
  clear h
  go_enter Tryz.func93, Tryz.ntmps93
  go_wp2_with (go_at_call 98; refine I.mono ?_; rintro e w' ⟨⟨j, rfl⟩, hw⟩; obtain rfl := hw.symm)
  go_ret
  exact ⟨by simp, rfl⟩

/-- The first n texts of a list are words, and unlike. -/
def Unl (L : List ByteArray) (n : Nat) : Prop := ∀ i, i < n → isWord (gt L i) = true ∧ ∀ j, j < i → gt L j ≠ gt L i
/-- May these be the words of a list that is written out? -/
def Good (L : List ByteArray) : Prop := L.length ≤ 8 ∧ Unl L L.length
def good (L : List ByteArray) : Bool := decide (L.length ≤ 8) && (List.range L.length).all fun i => isWord (gt L i) && (List.range i).all fun j => decide (gt L j ≠ gt L i)
theorem good_iff {L : List ByteArray} : good L = true ↔ Good L := by
  unfold good Good Unl
  simp only [Bool.and_eq_true, decide_eq_true_eq, List.all_eq_true, List.mem_range]
theorem good_yes {L : List ByteArray} (h : Good L) : good L = true := good_iff.2 h
theorem good_no {L : List ByteArray} (h : ¬ Good L) : good L = false := by
  cases hg : good L with
  | false => rfl
  | true => exact absurd (good_iff.1 hg) h

/-- Each text has a length that a machine knows. -/
def Short (L : List ByteArray) : Prop := ∀ k, k < L.length → (gt L k).size ≤ 9223372036854775807

theorem unlike_ok (a : Option Addr) (c : Nat) (L : List ByteArray) (w : World) (hr : RowL w a L) (hs : Short L) (hc : L.length ≤ c) (hn : L.length ≤ 9223372036854775807) :
    Calls Tryz.prog 85 #[.slice a L.length c] w fun e w' => e = .returned (.bool (good L)) ∧ w' = w := by
  obtain ⟨n, hL⟩ : ∃ n, L.length = n := ⟨_, rfl⟩
  by_cases h8 : n ≤ 8
  · have HG : Hd (Good L ↔ Unl L n) := ⟨by unfold Good; rw [hL]; exact ⟨fun h => h.2, fun h => ⟨h8, h⟩⟩⟩
    have HS : Hd (∀ k, k < n → (gt L k).size ≤ 9223372036854775807) := ⟨by rw [← hL]; exact hs⟩
    have HL : Hd (L.length = n) := ⟨hL⟩
    rw [hL] at hc hn ⊢
    clear hs hL
    go_enter Tryz.func85, Tryz.ntmps85
    go_wp2
    go_loop [10] (fun i => ∃ k : Nat, k ≤ n ∧ i = .int .i64 k ∧ Hd (Unl L k)) (fun i => n - (intOf i).toNat)
    case atStart => exact ⟨0, Nat.zero_le _, rfl, ⟨fun i h => absurd h (Nat.not_lt_zero _)⟩⟩
    case round =>
      obtain ⟨k, hk, rfl, hU⟩ := hrel
      by_cases hlt : k < n
      · have hlt' : k < L.length := by rw [HL.out]; exact hlt
        have hr2 := hr
        obtain ⟨b, off, rfl, hb, hcs⟩ := hr (by omega)
        have hcell := hcs k hlt'
        have W := word_ok (gt L k) (HS.out k hlt)
        have CN := contains_no (some ⟨b, off, none⟩) k c L (gt L k) w hr2 (by omega) (by omega)
        have CY := contains_yes (some ⟨b, off, none⟩) k c L (gt L k) w hr2 (by omega) (by omega)
        clear hr hr2 hcs
        cases hw : isWord (gt L k) with
        | false =>
          have no : good L = false := good_no fun h => by
            have := (HG.out.1 h k hlt).1
            rw [hw] at this
            cases this
          rw [hw] at W
          clear HG HS CN CY hU hw
          generalize gt L k = x at *
          go_wp2_with (first
            | (go_at_call 92; refine (W _).mono ?_; rintro e w' ⟨rfl, hw⟩; obtain rfl := hw.symm))
          go_ret
          exact ⟨by rw [no]; rfl, rfl⟩
        | true =>
          rw [hw] at W
          by_cases hd : ∃ j, j < k ∧ gt L j = gt L k
          · have C := CY hd
            have no : good L = false := good_no fun h => by
              obtain ⟨j, hj, e⟩ := hd
              exact (HG.out.1 h k hlt).2 j hj e
            clear HG HS CN CY hU hw hd
            generalize gt L k = x at *
            go_wp2_with (first
              | (go_at_call 92; refine (W _).mono ?_; rintro e w' ⟨rfl, hw⟩; obtain rfl := hw.symm)
              | (go_at_call 93; refine C.mono ?_; rintro e w' ⟨rfl, hw⟩; obtain rfl := hw.symm))
            go_ret
            exact ⟨by rw [no]; rfl, rfl⟩
          · have hd' : ∀ j, j < k → gt L j ≠ gt L k := fun j hj e => hd ⟨j, hj, e⟩
            have C := CN hd'
            have hU' : Hd (Unl L (k + 1)) := ⟨fun i hi => by
              by_cases ei : i = k
              · subst ei; exact ⟨hw, hd'⟩
              · exact hU.out i (by omega)⟩
            clear HG HS CN CY hU hw hd hd'
            generalize gt L k = x at *
            go_wp2_with (first
              | (go_at_call 92; refine (W _).mono ?_; rintro e w' ⟨rfl, hw⟩; obtain rfl := hw.symm)
              | (go_at_call 93; refine C.mono ?_; rintro e w' ⟨rfl, hw⟩; obtain rfl := hw.symm))
            go_round
            case rel => exact ⟨k + 1, by omega, by go_num, hU'⟩
            case measure => simp [intOf]; omega
      · obtain rfl : k = n := by omega
        have yes : good L = true := good_yes (HG.out.2 hU.out)
        clear hr HG HS hU
        go_wp2
        go_ret
        exact ⟨rfl, rfl⟩
  · have no : good L = false := good_no fun h => h8 (by rw [← hL]; exact h.1)
    have h8' : (n : Int) > 8 := by omega
    rw [no, hL]
    rw [hL] at hn
    clear hr hs
    go_enter Tryz.func85, Tryz.ntmps85
    go_wp2
    go_ret
    exact ⟨rfl, rfl⟩

end Go.Proofs.YtaodckojinbdfaaGreatDoor

namespace Go.Proofs.YtaodckojinbdfaaGreatDoor
open Go.RowKit

/-- The number that digits are. -/
def valL (l : List UInt8) : Nat := l.foldl (fun n b => n * 10 + (b.toNat - 48)) 0
/-- That of the first k. -/
def valTo (s : ByteArray) (k : Nat) : Nat := valL (s.data.toList.take k)
theorem valTo_zero (s : ByteArray) : valTo s 0 = 0 := by unfold valTo; rw [List.take_zero]; rfl
theorem valTo_succ (s : ByteArray) (k : Nat) (h : k < s.size) : valTo s (k + 1) = valTo s k * 10 + (s[k].toNat - 48) := by
  unfold valTo valL
  rw [List.take_add_one, byte_at s k h, Option.toList_some, List.foldl_append]
  rfl
theorem valTo_all (s : ByteArray) : valTo s s.size = valL s.data.toList := by
  unfold valTo
  rw [List.take_of_length_le (by rw [Array.length_toList]; exact Nat.le_refl _)]
theorem valTo_lt (s : ByteArray) (hd : allB isDigit s = true) : ∀ k, k ≤ s.size → valTo s k < 10 ^ k
  | 0, _ => by rw [valTo_zero]; decide
  | k + 1, h => by
    have ih := valTo_lt s hd k (by omega)
    have := (allB_iff _ _).1 hd k (by omega)
    unfold isDigit at this
    have hb : s[k].toNat - 48 ≤ 9 := by simp at this; omega
    rw [valTo_succ s k (by omega), Nat.pow_succ]
    omega

/-- Is it a number? -/
def isNum (s : ByteArray) : Bool := !(decide (9 < s.size) || (!(allB isDigit s && !decide (s.size = 0)) || (if h : 1 < s.size then (s[0].toNat : Int) == 48 else false)))
/-- The number within bounds. -/
def numIn (s : ByteArray) (least most : Int) : Bool := isNum s && (decide (least ≤ (valL s.data.toList : Int)) && decide ((valL s.data.toList : Int) ≤ most))
def numOf (s : ByteArray) (least most : Int) : Int := if numIn s least most then (valL s.data.toList : Int) else 0

theorem number_no (s : ByteArray) (least most : Int) (hs : s.size ≤ 9223372036854775807) (w : World) (h : isNum s = false) :
    Calls Tryz.prog 67 #[.string s, .int .i64 least, .int .i64 most] w fun e w' => e = .returned (.tuple #[.int .i64 0, .bool false]) ∧ w' = w := by
  have M := made_ok 81 _ ask_digit s hs
  rw [empty_eq] at M
  unfold isNum at h
  by_cases h1 : 9 < s.size
  · go_enter Tryz.func67, Tryz.ntmps67
    go_wp2_with fail
    go_ret2
    exact ⟨rfl, rfl⟩
  have d1 : decide (9 < s.size) = false := by simpa using h1
  rw [d1, Bool.false_or] at h
  cases h2 : (allB isDigit s && !decide (s.size = 0)) <;> rw [h2] at M h
  · clear h
    go_enter Tryz.func67, Tryz.ntmps67
    go_wp2_with (go_at_call 80; refine (M _).mono ?_; rintro e w' ⟨rfl, hw⟩; obtain rfl := hw.symm)
    go_ret2
    exact ⟨rfl, rfl⟩
  · by_cases h3 : 1 < s.size
    · rw [dif_pos h3] at h
      have h4 : ((s[0].toNat : Int) == 48) = true := by simpa using h
      clear h
      go_enter Tryz.func67, Tryz.ntmps67
      go_wp2_with (go_at_call 80; refine (M _).mono ?_; rintro e w' ⟨rfl, hw⟩; obtain rfl := hw.symm)
      go_ret2
      exact ⟨rfl, rfl⟩
    · rw [dif_neg h3] at h
      cases h

theorem isNum_parts {s : ByteArray} (h : isNum s = true) : s.size ≤ 9 ∧ allB isDigit s = true ∧ 1 ≤ s.size ∧ ∀ h1 : 1 < s.size, ((s[0].toNat : Int) == 48) = false := by
  unfold isNum at h
  simp only [Bool.not_eq_true', Bool.or_eq_false_iff, decide_eq_false_iff_not, Bool.not_eq_false', Bool.and_eq_true] at h
  obtain ⟨h1, ⟨h2, h3⟩, h4⟩ := h
  refine ⟨by omega, h2, by omega, fun hh => ?_⟩
  rw [dif_pos hh] at h4
  exact h4

theorem number_go (s : ByteArray) (least most : Int) (w : World) (h : isNum s = true) :
    Calls Tryz.prog 67 #[.string s, .int .i64 least, .int .i64 most] w fun e w' => e = .returned (.tuple #[.int .i64 (numOf s least most), .bool (numIn s least most)]) ∧ w' = w := by
  obtain ⟨h1, h2, h3, h4⟩ := isNum_parts h
  have M := made_ok 81 _ ask_digit s (by omega)
  have d3 : decide (s.size = 0) = false := by simp only [decide_eq_false_iff_not]; omega
  rw [empty_eq, h2, d3] at M
  have V : Hd (∀ k, k ≤ s.size → valTo s k < 10 ^ k) := ⟨valTo_lt s h2⟩
  have D := (allB_iff _ _).1 h2
  have RN : Hd (∀ v : Nat, valTo s s.size = v → numIn s least most = (decide (least ≤ (v : Int)) && decide ((v : Int) ≤ most)) ∧ numOf s least most = if (decide (least ≤ (v : Int)) && decide ((v : Int) ≤ most)) then (v : Int) else 0) := ⟨fun v hv => by
    rw [valTo_all] at hv
    unfold numOf numIn
    rw [h, hv, Bool.true_and]
    exact ⟨rfl, rfl⟩⟩
  clear h h2
  have e4 : ∀ h1 : 1 < s.size, ((s[0].toNat : Int) == 48) = false := h4
  clear h4
  have bytes : ∀ k (hk : k < s.size), 48 ≤ s[k].toNat ∧ s[k].toNat ≤ 57 := fun k hk => by
    have := D k hk
    unfold isDigit at this
    simp at this
    omega
  have B : Hd (∀ k (hk : k < s.size), 48 ≤ s[k].toNat ∧ s[k].toNat ≤ 57) := ⟨bytes⟩
  clear D bytes d3
  have e6 : 1 < s.size ∨ s.size = 1 := by omega
  rcases e6 with hb | hb
  · have e5 := e4 hb
    clear e4
    go_enter Tryz.func67, Tryz.ntmps67
    go_wp2_with (go_at_call 80; refine (M _).mono ?_; rintro e w' ⟨rfl, hw⟩; obtain rfl := hw.symm)
    clear M
    go_loop [8, 30] (fun x i => ∃ k : Nat, k ≤ s.size ∧ i = .int .i64 k ∧ ∃ v : Nat, x = .int .i64 v ∧ Hd (v = valTo s k)) (fun _ i => s.size - (intOf i).toNat)
    case atStart => exact ⟨0, Nat.zero_le _, rfl, 0, rfl, ⟨(valTo_zero s).symm⟩⟩
    case round =>
      obtain ⟨k, hk, rfl, v, rfl, hv⟩ := hrel
      by_cases hlt : k < s.size
      · obtain ⟨b1, b2⟩ := B.out k hlt
        have v1 : v < 10 ^ 9 := by rw [hv.out]; exact Nat.lt_of_lt_of_le (V.out k hk) (Nat.pow_le_pow_right (by decide) (by omega))
        obtain ⟨d, hd⟩ : ∃ d, s[k].toNat = 48 + d := ⟨s[k].toNat - 48, by omega⟩
        have hv' : Hd (v * 10 + d = valTo s (k + 1)) := ⟨by rw [valTo_succ s k hlt, ← hv.out, hd, Nat.add_sub_cancel_left]⟩
        clear hv
        go_wp2
        go_round
        case rel => exact ⟨k + 1, by omega, by go_num, v * 10 + d, by congr 1; omega, hv'⟩
        case measure => simp [intOf]; omega
      · obtain rfl : k = s.size := by omega
        have R : Hd (_ ∧ _) := ⟨RN.out v hv.out.symm⟩
        clear V RN B hv
        by_cases c1 : (v : Int) < least
        · have c2 : decide (least ≤ (v : Int)) = false := by simp; omega
          go_wp2
          go_ret2
          refine ⟨?_, rfl⟩
          rw [R.out.1, R.out.2, c2]
          rfl
        · have c2 : decide (least ≤ (v : Int)) = true := by simp; omega
          by_cases c3 : most < (v : Int)
          · have c4 : decide ((v : Int) ≤ most) = false := by simp; omega
            go_wp2
            go_ret2
            refine ⟨?_, rfl⟩
            rw [R.out.1, R.out.2, c2, c4]
            rfl
          · have c4 : decide ((v : Int) ≤ most) = true := by simp; omega
            go_wp2
            go_ret2
            refine ⟨?_, rfl⟩
            rw [R.out.1, R.out.2, c2, c4]
            rfl
  · clear e4
    go_enter Tryz.func67, Tryz.ntmps67
    go_wp2_with (go_at_call 80; refine (M _).mono ?_; rintro e w' ⟨rfl, hw⟩; obtain rfl := hw.symm)
    clear M
    go_loop [8, 30] (fun x i => ∃ k : Nat, k ≤ s.size ∧ i = .int .i64 k ∧ ∃ v : Nat, x = .int .i64 v ∧ Hd (v = valTo s k)) (fun _ i => s.size - (intOf i).toNat)
    case atStart => exact ⟨0, Nat.zero_le _, rfl, 0, rfl, ⟨(valTo_zero s).symm⟩⟩
    case round =>
      obtain ⟨k, hk, rfl, v, rfl, hv⟩ := hrel
      by_cases hlt : k < s.size
      · obtain ⟨b1, b2⟩ := B.out k hlt
        have v1 : v < 10 ^ 9 := by rw [hv.out]; exact Nat.lt_of_lt_of_le (V.out k hk) (Nat.pow_le_pow_right (by decide) (by omega))
        obtain ⟨d, hd⟩ : ∃ d, s[k].toNat = 48 + d := ⟨s[k].toNat - 48, by omega⟩
        have hv' : Hd (v * 10 + d = valTo s (k + 1)) := ⟨by rw [valTo_succ s k hlt, ← hv.out, hd, Nat.add_sub_cancel_left]⟩
        clear hv
        go_wp2
        go_round
        case rel => exact ⟨k + 1, by omega, by go_num, v * 10 + d, by congr 1; omega, hv'⟩
        case measure => simp [intOf]; omega
      · obtain rfl : k = s.size := by omega
        have R : Hd (_ ∧ _) := ⟨RN.out v hv.out.symm⟩
        clear V RN B hv
        by_cases c1 : (v : Int) < least
        · have c2 : decide (least ≤ (v : Int)) = false := by simp; omega
          go_wp2
          go_ret2
          refine ⟨?_, rfl⟩
          rw [R.out.1, R.out.2, c2]
          rfl
        · have c2 : decide (least ≤ (v : Int)) = true := by simp; omega
          by_cases c3 : most < (v : Int)
          · have c4 : decide ((v : Int) ≤ most) = false := by simp; omega
            go_wp2
            go_ret2
            refine ⟨?_, rfl⟩
            rw [R.out.1, R.out.2, c2, c4]
            rfl
          · have c4 : decide ((v : Int) ≤ most) = true := by simp; omega
            go_wp2
            go_ret2
            refine ⟨?_, rfl⟩
            rw [R.out.1, R.out.2, c2, c4]
            rfl

theorem number_ok (s : ByteArray) (least most : Int) (hs : s.size ≤ 9223372036854775807) (w : World) :
    Calls Tryz.prog 67 #[.string s, .int .i64 least, .int .i64 most] w fun e w' => e = .returned (.tuple #[.int .i64 (numOf s least most), .bool (numIn s least most)]) ∧ w' = w := by
  cases h : isNum s with
  | true => exact number_go s least most w h
  | false =>
    have e1 : numIn s least most = false := by unfold numIn; rw [h]; rfl
    have e2 : numOf s least most = 0 := by unfold numOf; rw [e1]; rfl
    rw [e1, e2]
    exact number_no s least most hs w h

end Go.Proofs.YtaodckojinbdfaaGreatDoor

namespace Go.Proofs.YtaodckojinbdfaaGreatDoor

def cutL (c : UInt8) : List UInt8 → List (List UInt8)
  | [] => [[]]
  | b :: l => if b = c then [] :: cutL c l else (b :: (cutL c l).headD []) :: (cutL c l).tail

theorem cutL_ne (c : UInt8) : ∀ l, cutL c l ≠ []
  | [] => by simp [cutL]
  | b :: l => by unfold cutL; split <;> simp
theorem cutL_plain (c : UInt8) : ∀ l, c ∉ l → cutL c l = [l]
  | [], _ => rfl
  | b :: l, h => by
    have h1 : ¬ b = c := fun e => h (by rw [e]; exact List.mem_cons_self ..)
    have h2 : c ∉ l := fun e => h (List.mem_cons_of_mem _ e)
    unfold cutL
    rw [if_neg h1, cutL_plain c l h2]
    rfl
theorem cutL_at (c : UInt8) : ∀ (p r : List UInt8), c ∉ p → cutL c (p ++ c :: r) = p :: cutL c r
  | [], r, _ => by rw [List.nil_append, cutL, if_pos rfl]
  | b :: p, r, h => by
    have h1 : ¬ b = c := fun e => h (by rw [e]; exact List.mem_cons_self ..)
    have h2 : c ∉ p := fun e => h (List.mem_cons_of_mem _ e)
    rw [List.cons_append, cutL, if_neg h1, cutL_at c p r h2]
    rfl
theorem cutL_length (c : UInt8) : ∀ l, (cutL c l).length = l.count c + 1
  | [] => rfl
  | b :: l => by
    have ih := cutL_length c l
    unfold cutL
    by_cases h : b = c
    · subst h
      rw [if_pos rfl, List.length_cons, ih, List.count_cons_self]
    · rw [if_neg h, List.length_cons, List.length_tail, ih, List.count_cons_of_ne h]
      rfl

def mk (l : List UInt8) : ByteArray := ⟨l.toArray⟩
theorem mk_list (l : List UInt8) : (mk l).data.toList = l := by simp [mk]
theorem mk_of (s : ByteArray) : mk s.data.toList = s := by unfold mk; simp
theorem mk_inj {a b : List UInt8} (h : mk a = mk b) : a = b := by rw [← mk_list a, h, mk_list]
theorem list_inj {a b : ByteArray} (h : a.data.toList = b.data.toList) : a = b := by rw [← mk_of a, h, mk_of]

def cutB (c : UInt8) (s : ByteArray) : List ByteArray := (cutL c s.data.toList).map mk
theorem cutB_len (c : UInt8) (s : ByteArray) : (cutB c s).length = s.data.toList.count c + 1 := by unfold cutB; rw [List.length_map, cutL_length]

def neL (l : List UInt8) : Bool := !l.isEmpty
def wordsL (l : List UInt8) : List (List UInt8) := (cutL 32 l).filter neL
def wordsB (s : ByteArray) : List ByteArray := (wordsL s.data.toList).map mk

theorem wordsL_blank (l : List UInt8) : wordsL (32 :: l) = wordsL l := by
  unfold wordsL
  rw [cutL, if_pos rfl, List.filter_cons]
  rfl
theorem wordsL_at (p r : List UInt8) (h : (32 : UInt8) ∉ p) (hp : p ≠ []) : wordsL (p ++ 32 :: r) = p :: wordsL r := by
  unfold wordsL
  rw [cutL_at 32 p r h, List.filter_cons, if_pos (by unfold neL; cases p with | nil => exact absurd rfl hp | cons _ _ => rfl)]
theorem wordsL_end (p : List UInt8) (h : (32 : UInt8) ∉ p) (hp : p ≠ []) : wordsL p = [p] := by
  unfold wordsL
  rw [cutL_plain 32 p h, List.filter_cons, if_pos (by unfold neL; cases p with | nil => exact absurd rfl hp | cons _ _ => rfl)]
  rfl

def isBlank (r : Nat) : Bool := r == 32

theorem size_list (s : ByteArray) : s.data.toList.length = s.size := Array.length_toList

theorem no_blank {l : List UInt8} {a b : Nat} (h : ∀ j, a ≤ j → j < b → l[j]? ≠ some 32) : (32 : UInt8) ∉ (l.drop a).take (b - a) := fun hm => by
  obtain ⟨k, hk, e⟩ := List.getElem_of_mem hm
  rw [List.length_take, List.length_drop] at hk
  rw [List.getElem_take, List.getElem_drop] at e
  exact h (a + k) (by omega) (by omega) (by rw [List.getElem?_eq_getElem (by omega), e])

end Go.Proofs.YtaodckojinbdfaaGreatDoor

namespace Go.Proofs.YtaodckojinbdfaaGreatDoor

/-- The lines of a text. -/
def linesB (s : ByteArray) : List ByteArray := if gt (cutB 10 s) ((cutB 10 s).length - 1) = ⟨#[]⟩ then (cutB 10 s).dropLast else cutB 10 s
/-- What a text is as a list, and whether it is one. -/
def listOk (s : ByteArray) : Bool := if s = mk [45] then true else if s = mk [42] then true else good (cutB 44 s)
def listOf (s : ByteArray) : List ByteArray := if s = mk [45] then [] else if s = mk [42] then [mk [42]] else if good (cutB 44 s) then cutB 44 s else []

structure Lv where
  name : ByteArray
  kind : Int
  shares : Int
  lend : Int
  borrow : Int
  queues : Int
  hand : Int
  length : Int
  wait : Int
  guess : Int
structure Rl where
  users : List ByteArray
  groups : List ByteArray
  verbs : List ByteArray
  resources : List ByteArray
  spaces : List ByteArray
structure Sc where
  name : ByteArray
  level : ByteArray
  rank : Int
  way : Int
  rules : List Rl
structure Cf where
  total : Int
  period : Int
  perSeat : Int
  most : Int
  levels : List Lv
  schemas : List Sc

/-- A configuration of which nothing is told. -/
def cf0 : Cf := ⟨0, 0, 0, 0, [], []⟩

/-- The first error stays. -/
def mu (e x : Int) : Int := if e = 0 then x else e
/-- The error of what does not hold. -/
def ifE (b : Bool) (x : Int) : Int := if b then 0 else x

theorem mu_zero (x : Int) : mu 0 x = x := if_pos rfl
theorem mu_keep {e x : Int} (h : e ≠ 0) : mu e x = e := if_neg h
theorem ifE_yes (x : Int) : ifE true x = 0 := rfl
theorem ifE_no (x : Int) : ifE false x = x := rfl
theorem mu_yes (e x : Int) : mu e (ifE true x) = e := by unfold mu; split <;> simp_all [ifE]
theorem mu_eq_zero {e x : Int} : mu e x = 0 ↔ e = 0 ∧ x = 0 := by unfold mu; split <;> simp_all
theorem ifE_eq_zero {b : Bool} {x : Int} (h : x ≠ 0) : ifE b x = 0 ↔ b = true := by cases b <;> simp_all [ifE]

def tTotal : ByteArray := ⟨#[116, 111, 116, 97, 108]⟩
def tPeriod : ByteArray := ⟨#[112, 101, 114, 105, 111, 100]⟩
def tSeats : ByteArray := ⟨#[115, 101, 97, 116, 115]⟩
def tLevel : ByteArray := ⟨#[108, 101, 118, 101, 108]⟩
def tSchema : ByteArray := ⟨#[115, 99, 104, 101, 109, 97]⟩
def tRule : ByteArray := ⟨#[114, 117, 108, 101]⟩
def tExempt : ByteArray := ⟨#[101, 120, 101, 109, 112, 116]⟩
def tReject : ByteArray := ⟨#[114, 101, 106, 101, 99, 116]⟩
def tQueue : ByteArray := ⟨#[113, 117, 101, 117, 101]⟩
def tAll : ByteArray := ⟨#[97, 108, 108]⟩
def tNone : ByteArray := ⟨#[110, 111, 110, 101]⟩
def tUser : ByteArray := ⟨#[117, 115, 101, 114]⟩
def tSpace : ByteArray := ⟨#[115, 112, 97, 99, 101]⟩

/-- What a line tells, by the words behind its first one: an error, or 0 and the configuration. -/
def totalE (C : Cf) (ws : List ByteArray) : Int := mu (mu (ifE ((ws.length : Int) == 1) 2) (ifE (numIn (gt ws 0) 1 4096) 8)) (ifE (C.total == 0) 5)
def periodE (C : Cf) (ws : List ByteArray) : Int := mu (mu (ifE ((ws.length : Int) == 1) 2) (ifE (numIn (gt ws 0) 1 1000) 8)) (ifE (C.period == 0) 5)
def seatsE (C : Cf) (ws : List ByteArray) : Int := mu (mu (mu (ifE ((ws.length : Int) == 2) 2) (ifE (numIn (gt ws 0) 1 1048576) 8)) (ifE (numIn (gt ws 1) 1 16) 8)) (ifE (C.perSeat == 0) 5)

def kindW (ws : List ByteArray) : Int :=
  if ws.length = 2 ∧ gt ws 1 = tExempt then 1 else if ws.length = 5 ∧ gt ws 4 = tReject then 2 else if ws.length = 10 ∧ gt ws 4 = tQueue then 3 else 0
/-- What may be borrowed, and whether it is a number or 'all'. -/
def borrowOk (s : ByteArray) : Bool := if s = tAll then true else numIn s 0 1000
def borrowOf (s : ByteArray) : Int := if s = tAll then -1 else numOf s 0 1000
def numsE (ws : List ByteArray) (e : Int) : Int := mu (mu (mu e (ifE (numIn (gt ws 1) 0 10000) 8)) (ifE (numIn (gt ws 2) 0 100) 8)) (ifE (borrowOk (gt ws 3)) 8)
def queueE (ws : List ByteArray) (e : Int) : Int :=
  mu (mu (mu (mu (mu e (ifE (numIn (gt ws 5) 1 64) 8)) (ifE (numIn (gt ws 6) 1 8) 8)) (ifE (numIn (gt ws 7) 1 64) 8)) (ifE (numIn (gt ws 8) 1 1000) 8)) (ifE (numIn (gt ws 9) 1 1000) 8)
/-- The level that the words tell. -/
def levelOf (ws : List ByteArray) : Lv :=
  if kindW ws = 1 then ⟨gt ws 0, 1, 0, 0, 0, 0, 0, 0, 0, 0⟩
  else if kindW ws = 2 then ⟨gt ws 0, 2, numOf (gt ws 1) 0 10000, numOf (gt ws 2) 0 100, borrowOf (gt ws 3), 0, 0, 0, 0, 0⟩
  else ⟨gt ws 0, 3, numOf (gt ws 1) 0 10000, numOf (gt ws 2) 0 100, borrowOf (gt ws 3), numOf (gt ws 5) 1 64, numOf (gt ws 6) 1 8, numOf (gt ws 7) 1 64, numOf (gt ws 8) 1 1000, numOf (gt ws 9) 1 1000⟩
/-- The errors of its words. -/
def levelW (ws : List ByteArray) : Int :=
  if kindW ws = 0 then 2 else if kindW ws = 1 then ifE (isName (gt ws 0)) 4
  else if kindW ws = 2 then numsE ws (ifE (isName (gt ws 0)) 4) else queueE ws (numsE ws (ifE (isName (gt ws 0)) 4))
def hasLv (C : Cf) (s : ByteArray) : Bool := C.levels.any fun l => decide (l.name = s)
def hasSc (C : Cf) (s : ByteArray) : Bool := C.schemas.any fun l => decide (l.name = s)
def levelE (C : Cf) (ws : List ByteArray) : Int := mu (mu (levelW ws) (ifE (!hasLv C (gt ws 0)) 5)) (ifE (decide ((C.levels.length : Int) < 16)) 3)

def byOk (s : ByteArray) : Bool := decide (s = tNone) || (decide (s = tUser) || decide (s = tSpace))
def byOf (s : ByteArray) : Int := if s = tUser then 1 else if s = tSpace then 2 else 0
def schemaW (ws : List ByteArray) : Int :=
  mu (mu (mu (mu (ifE ((ws.length : Int) == 4) 2) (ifE (isName (gt ws 0)) 4)) (ifE (isName (gt ws 1)) 4)) (ifE (numIn (gt ws 2) 1 10000) 8)) (ifE (byOk (gt ws 3)) 2)
def schemaE (C : Cf) (ws : List ByteArray) : Int := mu (mu (schemaW ws) (ifE (!hasSc C (gt ws 0)) 5)) (ifE (decide ((C.schemas.length : Int) < 32)) 3)
def schemaOf (ws : List ByteArray) : Sc := ⟨gt ws 0, gt ws 1, numOf (gt ws 2) 1 10000, byOf (gt ws 3), []⟩

def ruleW (C : Cf) (ws : List ByteArray) : Int :=
  mu (mu (mu (mu (mu (ifE (((ws.length : Int) == 5) && decide (0 < (C.schemas.length : Int))) 2) (ifE (listOk (gt ws 0)) 2)) (ifE (listOk (gt ws 1)) 2)) (ifE (listOk (gt ws 2)) 2)) (ifE (listOk (gt ws 3)) 2)) (ifE (listOk (gt ws 4)) 2)
def ruleOf (ws : List ByteArray) : Rl := ⟨listOf (gt ws 0), listOf (gt ws 1), listOf (gt ws 2), listOf (gt ws 3), listOf (gt ws 4)⟩
/-- The rules of the schema that was told last. -/
def lastRules (C : Cf) : List Rl := match C.schemas.getLast? with
  | some s => s.rules
  | none => []
def withRule (r : Rl) (s : Sc) : Sc := ⟨s.name, s.level, s.rank, s.way, s.rules ++ [r]⟩
def addRule (r : Rl) : List Sc → List Sc
  | [] => []
  | [s] => [withRule r s]
  | s :: t :: l => s :: addRule r (t :: l)
def ruleE (C : Cf) (ws : List ByteArray) : Int := mu (ruleW C ws) (ifE (decide (((lastRules C).length : Int) < 8)) 3)

/-- One line, by its first word and the others. -/
def tellE (C : Cf) (s : ByteArray) (ws : List ByteArray) : Int :=
  if s = tTotal then totalE C ws else if s = tPeriod then periodE C ws else if s = tSeats then seatsE C ws else if s = tLevel then levelE C ws
  else if s = tSchema then schemaE C ws else if s = tRule then ruleE C ws else 2
def tellC (C : Cf) (s : ByteArray) (ws : List ByteArray) : Cf :=
  if s = tTotal then ⟨numOf (gt ws 0) 1 4096, C.period, C.perSeat, C.most, C.levels, C.schemas⟩
  else if s = tPeriod then ⟨C.total, numOf (gt ws 0) 1 1000, C.perSeat, C.most, C.levels, C.schemas⟩
  else if s = tSeats then ⟨C.total, C.period, numOf (gt ws 0) 1 1048576, numOf (gt ws 1) 1 16, C.levels, C.schemas⟩
  else if s = tLevel then ⟨C.total, C.period, C.perSeat, C.most, C.levels ++ [levelOf ws], C.schemas⟩
  else if s = tSchema then ⟨C.total, C.period, C.perSeat, C.most, C.levels, C.schemas ++ [schemaOf ws]⟩
  else ⟨C.total, C.period, C.perSeat, C.most, C.levels, addRule (ruleOf ws) C.schemas⟩

/-- A line without words, or whose first word begins with a number sign, says nothing. -/
def silent (ws : List ByteArray) : Bool := match ws with
  | [] => true
  | s :: _ => s.data.toList.head? == some 35
def lineE (C : Cf) (ws : List ByteArray) : Int := if silent ws then 0 else tellE C (gt ws 0) ws.tail
def lineC (C : Cf) (ws : List ByteArray) : Cf := if silent ws then C else tellC C (gt ws 0) ws.tail

/-- A text's lines from the i-th on: an error and its line, or 0 and the configuration. -/
def goE (C : Cf) : List ByteArray → Int
  | [] => 0
  | l :: r => if lineE C (wordsB l) = 0 then goE (lineC C (wordsB l)) r else lineE C (wordsB l)
def goL (C : Cf) (i : Nat) : List ByteArray → Nat
  | [] => 0
  | l :: r => if lineE C (wordsB l) = 0 then goL (lineC C (wordsB l)) (i + 1) r else i + 1
def goC (C : Cf) : List ByteArray → Cf
  | [] => C
  | l :: r => if lineE C (wordsB l) = 0 then goC (lineC C (wordsB l)) r else cf0

/-- What a text tells. -/
def parE (s : ByteArray) : Int := if 65536 < s.size then 3 else goE cf0 (linesB s)
def parL (s : ByteArray) : Nat := if 65536 < s.size then 0 else goL cf0 0 (linesB s)
def parC (s : ByteArray) : Cf := if 65536 < s.size then cf0 else goC cf0 (linesB s)

theorem gt_tail (L : List ByteArray) (k : Nat) : gt L.tail k = gt L (k + 1) := by
  unfold gt; cases L <;> simp
theorem gt_drop (L : List ByteArray) (j k : Nat) : gt (L.drop j) k = gt L (j + k) := by
  unfold gt; simp [List.getElem?_drop]

end Go.Proofs.YtaodckojinbdfaaGreatDoor

namespace Go.Proofs.YtaodckojinbdfaaGreatDoor
open Go.Lib
theorem ext_list (s : ByteArray) (a b : Nat) : s.extract a b = mk ((s.data.toList.drop a).take (b - a)) := by
  apply list_inj
  rw [mk_list, extract_data]
theorem index_one_eq (c : UInt8) : ∀ l : List UInt8, index l [c] = indexByte l c
  | [] => rfl
  | b :: l => by
    rw [index, indexByte, index_one_eq c l]
    by_cases h : b = c
    · subst h; simp [List.isPrefixOf]
    · have h1 : ([c].isPrefixOf (b :: l)) = false := by simp [List.isPrefixOf, Ne.symm h]
      have h2 : (b == c) = false := by simpa using h
      rw [h1, h2]

theorem hit_parts {l : List UInt8} {c : UInt8} {i : Nat} (h : indexByte l c = (i : Int)) : l = l.take i ++ c :: l.drop (i + 1) ∧ c ∉ l.take i := by
  obtain ⟨h1, h2⟩ := indexByte_some h
  have hi : i < l.length := (List.getElem?_eq_some_iff.1 h1).1
  have hc : l[i] = c := (List.getElem?_eq_some_iff.1 h1).2
  refine ⟨?_, fun hm => ?_⟩
  · rw [← hc, ← List.drop_eq_getElem_cons hi, List.take_append_drop]
  · obtain ⟨k, hk, e⟩ := List.getElem_of_mem hm
    rw [List.length_take] at hk
    refine h2 k (by omega) ?_
    rw [List.getElem_take] at e
    rw [List.getElem?_eq_getElem (by omega), e]
theorem miss_parts {l : List UInt8} {c : UInt8} (h : indexByte l c = -1) : c ∉ l := fun hm => by
  obtain ⟨k, hk, e⟩ := List.getElem_of_mem hm
  exact indexByte_none h k (by rw [List.getElem?_eq_getElem hk, e])

theorem splitK_all (c : UInt8) : ∀ (k : Nat) (l : List UInt8), l.count c ≤ k → splitK [c] 0 k l = cutL c l
  | 0, l, h => by
    rw [cutL_plain c l (List.count_eq_zero.1 (by omega))]
    rfl
  | k + 1, l, h => by
    unfold splitK
    rw [index_one_eq]
    by_cases hm : indexByte l c = -1
    · rw [if_pos (by rw [hm]; rfl), cutL_plain c l (miss_parts hm)]
    · rw [if_neg (fun e => hm (eq_of_beq e))]
      have hge := indexByte_ge l c
      obtain ⟨i, hi⟩ : ∃ i : Nat, indexByte l c = (i : Int) := ⟨(indexByte l c).toNat, by omega⟩
      obtain ⟨e1, e2⟩ := hit_parts hi
      rw [hi, Int.toNat_natCast, Nat.add_zero]
      show l.take i :: splitK [c] 0 k (l.drop (i + 1)) = _
      have hcnt : (l.drop (i + 1)).count c ≤ k := by
        have : l.count c = (l.take i ++ c :: l.drop (i + 1)).count c := congrArg (List.count c) e1
        rw [List.count_append, List.count_cons_self] at this
        omega
      rw [splitK_all c k _ hcnt]
      conv => rhs; rw [e1]
      rw [cutL_at c _ _ e2]
theorem splitK_many (c : UInt8) : ∀ (k : Nat) (l : List UInt8), k ≤ l.count c → (splitK [c] 0 k l).length = k + 1
  | 0, l, _ => rfl
  | k + 1, l, h => by
    unfold splitK
    rw [index_one_eq]
    by_cases hm : indexByte l c = -1
    · have := List.count_eq_zero.2 (miss_parts hm); omega
    · rw [if_neg (fun e => hm (eq_of_beq e))]
      have hge := indexByte_ge l c
      obtain ⟨i, hi⟩ : ∃ i : Nat, indexByte l c = (i : Int) := ⟨(indexByte l c).toNat, by omega⟩
      obtain ⟨e1, e2⟩ := hit_parts hi
      rw [hi, Int.toNat_natCast, Nat.add_zero, List.length_cons]
      have hcnt : k ≤ (l.drop (i + 1)).count c := by
        have : l.count c = (l.take i ++ c :: l.drop (i + 1)).count c := congrArg (List.count c) e1
        rw [List.count_append, List.count_cons_self, List.count_eq_zero.2 e2] at this
        omega
      exact congrArg (· + 1) (splitK_many c k _ hcnt)

theorem splitB_mk (c : UInt8) (k : Nat) (s : ByteArray) : splitB ⟨#[c]⟩ 0 k s = (splitK [c] 0 k s.data.toList).map mk := by
  have h := splitB_data ⟨#[c]⟩ 0 k s
  have : (splitB ⟨#[c]⟩ 0 k s) = ((splitB ⟨#[c]⟩ 0 k s).map (·.data.toList)).map mk := by
    rw [List.map_map]
    have : (mk ∘ fun x : ByteArray => x.data.toList) = id := by funext x; exact mk_of x
    rw [this, List.map_id]
  rw [this, h]
theorem splitB_all' (c : UInt8) (k : Nat) (s : ByteArray) (h : s.data.toList.count c ≤ k) : splitB ⟨#[c]⟩ 0 k s = cutB c s := by
  rw [splitB_mk, splitK_all c k _ h]
  rfl
theorem splitB_many (c : UInt8) (k : Nat) (s : ByteArray) (h : k ≤ s.data.toList.count c) : (splitB ⟨#[c]⟩ 0 k s).length = k + 1 := by
  rw [splitB_mk, List.length_map, splitK_many c k _ h]

/-! ### the pieces that are not empty -/
theorem blank_N (n b0 b1 b2 b3 : Nat) (hn : 1 ≤ n) :
    ((decodeN n b0 b1 b2 b3).1 = 32 ↔ b0 = 32) ∧ (b0 = 32 → (decodeN n b0 b1 b2 b3).2 = 1) ∧ 1 ≤ (decodeN n b0 b1 b2 b3).2 ∧ (decodeN n b0 b1 b2 b3).2 ≤ 4 ∧ (decodeN n b0 b1 b2 b3).2 ≤ n ∧
    (2 ≤ (decodeN n b0 b1 b2 b3).2 → b1 / 64 = 2) ∧ (3 ≤ (decodeN n b0 b1 b2 b3).2 → b2 / 64 = 2) ∧ (4 ≤ (decodeN n b0 b1 b2 b3).2 → b3 / 64 = 2) := by
  unfold decodeN
  repeat' split
  all_goals (refine ⟨⟨fun h => ?_, fun h => ?_⟩, fun h => ?_, ?_, ?_, ?_, fun h => ?_, fun h => ?_, fun h => ?_⟩ <;> (try dsimp only at *) <;> omega)

theorem get_bang (s : ByteArray) (i : Nat) (h : i < s.size) : s.data.toList[i]? = some (s.get! i) := by
  have hl : i < s.data.toList.length := by rw [Array.length_toList]; exact h
  rw [List.getElem?_eq_getElem hl]
  congr 1
  show s.data[i] = s.data[i]!
  rw [getElem!_pos s.data i h]

theorem blank_at (s : ByteArray) (pos : Nat) (h : pos < s.size) :
    ((((Utf8.decode s pos).1 == 32) = true) → s.data.toList[pos]? = some 32 ∧ (Utf8.decode s pos).2 = 1) ∧
    ((((Utf8.decode s pos).1 == 32) = false) → ∀ j, pos ≤ j → j < pos + (Utf8.decode s pos).2 → s.data.toList[j]? ≠ some 32) ∧
    1 ≤ (Utf8.decode s pos).2 ∧ pos + (Utf8.decode s pos).2 ≤ s.size := by
  rw [decode_at]
  obtain ⟨h1, h2, h3, h4, h5, h6, h7, h8⟩ := blank_N (s.size - pos) (s.get! pos).toNat (s.get! (pos + 1)).toNat (s.get! (pos + 2)).toNat (s.get! (pos + 3)).toNat (by omega)
  generalize decodeN (s.size - pos) (s.get! pos).toNat (s.get! (pos + 1)).toNat (s.get! (pos + 2)).toNat (s.get! (pos + 3)).toNat = D at *
  refine ⟨fun e => ?_, fun e j hj hk => ?_, h3, by omega⟩
  · have e1 := h1.1 (eq_of_beq e)
    refine ⟨?_, h2 e1⟩
    rw [get_bang s pos h]
    congr 1
    exact UInt8.toNat_inj.1 e1
  · have e1 : ¬ D.1 = 32 := fun h => by rw [h] at e; exact absurd e (by decide)
    rw [get_bang s j (by omega)]
    intro hc
    have hc' : (s.get! j).toNat = 32 := by rw [Option.some.inj hc]; rfl
    rcases (by omega : j = pos ∨ j = pos + 1 ∨ j = pos + 2 ∨ j = pos + 3) with rfl | rfl | rfl | rfl
    · exact e1 (h1.2 hc')
    · have := h6 (by omega); omega
    · have := h7 (by omega); omega
    · have := h8 (by omega); omega

theorem spans_end (s : ByteArray) (st : Option Nat) (acc : List (Nat × Nat)) (h : ∀ a, st = some a → a < s.size ∧ ∀ j, a ≤ j → j < s.size → s.data.toList[j]? ≠ some 32) :
    ((closeSpans s (acc, st)).map fun x => s.extract x.1 x.2) = (acc.map fun x => s.extract x.1 x.2) ++ (wordsL (s.data.toList.drop (st.getD s.size))).map mk := by
  cases st with
  | none =>
    show _ = _ ++ (wordsL (s.data.toList.drop s.size)).map mk
    rw [List.drop_of_length_le (by rw [size_list]; exact Nat.le_refl _)]
    show _ = _ ++ []
    rw [List.append_nil]
    rfl
  | some a =>
    obtain ⟨h1, h2⟩ := h a rfl
    have nb := no_blank (b := s.size) h2
    have e : (s.data.toList.drop a).take (s.size - a) = s.data.toList.drop a := List.take_of_length_le (by rw [List.length_drop, size_list]; exact Nat.le_refl _)
    rw [e] at nb
    show ((acc ++ [(a, s.size)]).map fun x => s.extract x.1 x.2) = _ ++ (wordsL (s.data.toList.drop a)).map mk
    rw [List.map_append, wordsL_end _ nb (fun h0 => by have := congrArg List.length h0; rw [List.length_drop, size_list] at this; simp at this; omega)]
    rw [List.map_cons, List.map_nil, ext_list, e]
    rfl

theorem spans_words (s : ByteArray) : ∀ (f pos : Nat) (st : Option Nat) (acc : List (Nat × Nat)), s.size ≤ pos + f → pos ≤ s.size → (∀ a, st = some a → a < pos ∧ ∀ j, a ≤ j → j < pos → s.data.toList[j]? ≠ some 32) →
    ((closeSpans s (spansFromP isBlank s f pos st acc)).map fun x => s.extract x.1 x.2) = (acc.map fun x => s.extract x.1 x.2) ++ (wordsL (s.data.toList.drop (st.getD pos))).map mk
  | 0, pos, st, acc, h1, h2, h3 => by
    obtain rfl : pos = s.size := by omega
    exact spans_end s st acc h3
  | f + 1, pos, st, acc, h1, h2, h3 => by
    by_cases hp : pos < s.size
    · obtain ⟨b1, b2, b3, b4⟩ := blank_at s pos hp
      unfold spansFromP
      rw [if_pos hp]
      cases hb : isBlank (Utf8.decode s pos).1 with
      | true =>
        obtain ⟨c1, c2⟩ := b1 hb
        rw [if_pos rfl, c2]
        have hd : s.data.toList.drop pos = 32 :: s.data.toList.drop (pos + 1) := by
          have hl : pos < s.data.toList.length := by rw [size_list]; exact hp
          rw [List.drop_eq_getElem_cons hl]
          congr 1
          rw [List.getElem?_eq_getElem hl] at c1
          exact Option.some.inj c1
        cases st with
        | none =>
          show ((closeSpans s (spansFromP isBlank s f (pos + 1) none acc)).map fun x => s.extract x.1 x.2) = _
          rw [spans_words s f (pos + 1) none acc (by omega) (by omega) (fun a h => by cases h)]
          show _ ++ (wordsL (s.data.toList.drop (pos + 1))).map mk = _ ++ (wordsL (s.data.toList.drop pos)).map mk
          rw [hd, wordsL_blank]
        | some a =>
          obtain ⟨d1, d2⟩ := h3 a rfl
          show ((closeSpans s (spansFromP isBlank s f (pos + 1) none (acc ++ [(a, pos)]))).map fun x => s.extract x.1 x.2) = _
          rw [spans_words s f (pos + 1) none (acc ++ [(a, pos)]) (by omega) (by omega) (fun a h => by cases h)]
          show _ ++ (wordsL (s.data.toList.drop (pos + 1))).map mk = _ ++ (wordsL (s.data.toList.drop a)).map mk
          have e : s.data.toList.drop a = (s.data.toList.drop a).take (pos - a) ++ 32 :: s.data.toList.drop (pos + 1) := by
            rw [← hd]
            conv => lhs; rw [← List.take_append_drop (pos - a) (s.data.toList.drop a), List.drop_drop]
            rw [show a + (pos - a) = pos by omega]
          have e2 : wordsL (s.data.toList.drop a) = (s.data.toList.drop a).take (pos - a) :: wordsL (s.data.toList.drop (pos + 1)) := by
            conv => lhs; rw [e]
            refine wordsL_at _ _ (no_blank d2) (fun h0 => ?_)
            have := congrArg List.length h0
            rw [List.length_take, List.length_drop, size_list] at this
            simp at this
            omega
          rw [e2, List.map_append, List.map_cons, List.map_nil, List.map_cons, List.append_assoc, ext_list]
          rfl
      | false =>
        have c1 := b2 hb
        rw [if_neg (by decide)]
        cases st with
        | none =>
          show ((closeSpans s (spansFromP isBlank s f (pos + (Utf8.decode s pos).2) (some pos) acc)).map fun x => s.extract x.1 x.2) = _
          rw [spans_words s f _ (some pos) acc (by omega) b4 (fun a h => by cases h; exact ⟨by omega, c1⟩)]
          rfl
        | some a =>
          obtain ⟨d1, d2⟩ := h3 a rfl
          show ((closeSpans s (spansFromP isBlank s f (pos + (Utf8.decode s pos).2) (some a) acc)).map fun x => s.extract x.1 x.2) = _
          rw [spans_words s f _ (some a) acc (by omega) b4 (fun a' h => by
            cases h
            refine ⟨by omega, fun j hj hk => ?_⟩
            by_cases hjp : j < pos
            · exact d2 j hj hjp
            · exact c1 j (by omega) hk)]
          rfl
    · obtain rfl : pos = s.size := by omega
      rw [spansFromP_end _ _ _ _ _ _ hp]
      exact spans_end s st acc h3

theorem fields_words (s : ByteArray) : goFieldsP isBlank s = wordsB s := by
  unfold goFieldsP spansOfP
  rw [spans_words s s.size 0 none [] (by omega) (Nat.zero_le _) (fun a h => by cases h)]
  rfl


end Go.Proofs.YtaodckojinbdfaaGreatDoor
