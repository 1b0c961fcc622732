/-
  What the small functions of the program answer that ask what a byte is, and 'made', 'Name', 'Word'. No condition but that a text has a length.
-/
import Derived.Test.YtooaojegdhamjaaDoorRows
import Derived.ProofKit
import Derived.OpenShut
import Derived.Below
import Derived.BigQuiet
import Derived.OwnWalk
import Derived.Deep.QuietTactic
import Derived.Deep.DeepMust
import Derived.WalkKit
import Derived.Shelf.Abstract
namespace Go.Proofs.YtooaojegdhamjaaDoor
open Go.RowKit

/-- A fact that no rule may use. -/
structure Hd (p : Prop) : Prop where
  out : p

def intOf : Value → Int
  | .int _ n => n
  | _ => 0

def isDigit (n : Int) : Bool := decide (48 ≤ n ∧ n ≤ 57)
def isSmall (n : Int) : Bool := decide (97 ≤ n ∧ n ≤ 122)
def isGreat (n : Int) : Bool := decide (65 ≤ n ∧ n ≤ 90)
def isNameB (n : Int) : Bool := isSmall n || (isDigit n || n == 45)
def isWordB (n : Int) : Bool := (n == 46 || (n == 95 || (n == 58 || (n == 47 || (n == 64 || n == 45))))) || (isSmall n || (isGreat n || isDigit n))

/-- Every byte of a text is of one kind. -/
def allB (p : Int → Bool) (s : ByteArray) : Bool := s.data.toList.all fun b => p (b.toNat : Int)

theorem byte_at (s : ByteArray) (k : Nat) (h : k < s.size) : s.data.toList[k]? = some s[k] := by
  have hl : k < s.data.toList.length := by rw [Array.length_toList]; exact h
  rw [List.getElem?_eq_getElem hl]
  rfl
theorem allB_iff (p : Int → Bool) (s : ByteArray) : allB p s = true ↔ ∀ k (h : k < s.size), p (s[k].toNat : Int) = true := by
  unfold allB
  rw [List.all_eq_true]
  constructor
  · intro h k hk
    exact h _ (List.mem_of_getElem? (byte_at s k hk))
  · intro h b hb
    obtain ⟨k, hk, rfl⟩ := List.getElem_of_mem hb
    have hk' : k < s.size := by rw [Array.length_toList] at hk; exact hk
    exact h k hk'
theorem allB_no {p : Int → Bool} {s : ByteArray} (k : Nat) (h : k < s.size) (hp : p (s[k].toNat : Int) = false) : allB p s = false := by
  cases hA : allB p s with
  | false => rfl
  | true => have := (allB_iff p s).1 hA k h; rw [hp] at this; cases this

theorem digit_ok (n : Int) (w : World) : Calls Tryd.prog 72 #[.int .u8 n] w fun e w' => e = .returned (.bool (isDigit n)) ∧ w' = w := by
  by_cases h1 : 48 ≤ n <;> by_cases h2 : n ≤ 57
  all_goals first | (exfalso; omega) | skip
  all_goals
    go_enter Tryd.func72, Tryd.ntmps72
    go_wp2
    go_ret
    refine ⟨?_, rfl⟩
    simp [isDigit, h1, h2]
theorem small_ok (n : Int) (w : World) : Calls Tryd.prog 88 #[.int .u8 n] w fun e w' => e = .returned (.bool (isSmall n)) ∧ w' = w := by
  by_cases h1 : 97 ≤ n <;> by_cases h2 : n ≤ 122
  all_goals first | (exfalso; omega) | skip
  all_goals
    go_enter Tryd.func88, Tryd.ntmps88
    go_wp2
    go_ret
    refine ⟨?_, rfl⟩
    simp [isSmall, h1, h2]
theorem great_ok (n : Int) (w : World) : Calls Tryd.prog 89 #[.int .u8 n] w fun e w' => e = .returned (.bool (isGreat n)) ∧ w' = w := by
  by_cases h1 : 65 ≤ n <;> by_cases h2 : n ≤ 90
  all_goals first | (exfalso; omega) | skip
  all_goals
    go_enter Tryd.func89, Tryd.ntmps89
    go_wp2
    go_ret
    refine ⟨?_, rfl⟩
    simp [isGreat, h1, h2]

theorem wordSign_ok (n : Int) (w : World) : Calls Tryd.prog 81 #[.int .u8 n] w fun e w' => e = .returned (.bool (isWordB n)) ∧ w' = w := by
  have A := small_ok n
  have B := digit_ok n
  have C := great_ok n
  by_cases t1 : n = 46
  · subst t1
    go_enter Tryd.func81, Tryd.ntmps81
    go_wp2_with fail
    go_ret; exact ⟨rfl, rfl⟩
  by_cases t2 : n = 95
  · subst t2
    go_enter Tryd.func81, Tryd.ntmps81
    go_wp2_with fail
    go_ret; exact ⟨rfl, rfl⟩
  by_cases t3 : n = 58
  · subst t3
    go_enter Tryd.func81, Tryd.ntmps81
    go_wp2_with fail
    go_ret; exact ⟨rfl, rfl⟩
  by_cases t4 : n = 47
  · subst t4
    go_enter Tryd.func81, Tryd.ntmps81
    go_wp2_with fail
    go_ret; exact ⟨rfl, rfl⟩
  by_cases t5 : n = 64
  · subst t5
    go_enter Tryd.func81, Tryd.ntmps81
    go_wp2_with fail
    go_ret; exact ⟨rfl, rfl⟩
  by_cases t6 : n = 45
  · subst t6
    go_enter Tryd.func81, Tryd.ntmps81
    go_wp2_with fail
    go_ret; exact ⟨rfl, rfl⟩
  cases h1 : isSmall n <;> rw [h1] at A <;> cases h2 : isGreat n <;> rw [h2] at C <;> cases h3 : isDigit n <;> rw [h3] at B
  all_goals
    go_enter Tryd.func81, Tryd.ntmps81
    go_wp2_with (first
      | (go_at_call 88; refine (A _).mono ?_; rintro e w' ⟨rfl, hw⟩; obtain rfl := hw.symm)
      | (go_at_call 72; refine (B _).mono ?_; rintro e w' ⟨rfl, hw⟩; obtain rfl := hw.symm)
      | (go_at_call 89; refine (C _).mono ?_; rintro e w' ⟨rfl, hw⟩; obtain rfl := hw.symm))
    go_ret
    refine ⟨?_, rfl⟩
    simp [isWordB, h1, h2, h3, t1, t2, t3, t4, t5, t6]

/-- A function value that answers what a byte is. -/
def Asks (g : Nat) (p : Int → Bool) : Prop :=
  (∀ args w, (callFunc g args).run Tryd.prog w = .ok (.enter g args) w) ∧ ∀ (n : Int) (w : World), Calls Tryd.prog g #[.int .u8 n] w fun e w' => e = .returned (.bool (p n)) ∧ w' = w

theorem made_ok (g : Nat) (p : Int → Bool) (hg : Asks g p) (s : ByteArray) (hs : s.size ≤ 9223372036854775807) (w : World) :
    Calls Tryd.prog 71 #[.string s, .func (.func g) #[] #[]] w fun e w' => e = .returned (.bool (allB p s && !s.toList.isEmpty)) ∧ w' = w := by
  obtain ⟨eg, H⟩ := hg
  go_enter Tryd.func71, Tryd.ntmps71
  go_wp2
  go_loop [8] (fun i => ∃ k : Nat, k ≤ s.size ∧ i = .int .i64 k ∧ ∀ j (h : j < s.size), j < k → p (s[j].toNat : Int) = true) (fun i => s.size - (intOf i).toNat)
  case atStart => exact ⟨0, Nat.zero_le _, rfl, fun j _ h => absurd h (Nat.not_lt_zero _)⟩
  case round =>
    obtain ⟨k, hk, rfl, hp⟩ := hrel
    by_cases hlt : k < s.size
    · have C := H (s[k].toNat : Int)
      cases hpk : p (s[k].toNat : Int) <;> rw [hpk] at C
      · go_wp2_with (go_at_fn g; refine (C _).mono ?_; rintro e w' ⟨rfl, hw⟩; obtain rfl := hw.symm)
        go_ret
        exact ⟨by rw [allB_no k hlt hpk]; rfl, rfl⟩
      · go_wp2_with (go_at_fn g; refine (C _).mono ?_; rintro e w' ⟨rfl, hw⟩; obtain rfl := hw.symm)
        go_round
        case rel =>
          refine ⟨k + 1, by omega, by go_num, fun j h hj => ?_⟩
          by_cases e : j = k
          · subst e; exact hpk
          · exact hp j h (by omega)
        case measure => simp [intOf]; omega
    · obtain rfl : k = s.size := by omega
      have hA : allB p s = true := (allB_iff p s).2 fun j h => hp j h h
      go_wp2
      go_ret
      exact ⟨rfl, rfl⟩

theorem empty_eq (s : ByteArray) : s.toList.isEmpty = decide (s.size = 0) := by
  rw [ByteArray.toList_eq]
  have : s.size = s.data.toList.length := Array.length_toList.symm
  rw [this]
  cases s.data.toList <;> simp
/-- Is it a word? -/
def isWord (s : ByteArray) : Bool := decide (s.size ≤ 64) && (allB isWordB s && (!decide (s.size = 0) && !(s.toList == [45])))
/-- Is it a name? -/
def isName (s : ByteArray) : Bool := decide (s.size ≤ 32) && (allB isNameB s && (if h : 0 < s.size then isSmall (s[0].toNat : Int) else false))

theorem ask_digit : Asks 72 isDigit := ⟨enters_of Tryd.func72 (by kernel_rfl) rfl, digit_ok⟩
theorem ask_word : Asks 81 isWordB := ⟨enters_of Tryd.func81 (by kernel_rfl) rfl, wordSign_ok⟩

theorem word_ok (s : ByteArray) (hs : s.size ≤ 9223372036854775807) (w : World) :
    Calls Tryd.prog 69 #[.string s] w fun e w' => e = .returned (.bool (isWord s)) ∧ w' = w := by
  have M := made_ok 81 _ ask_word s hs
  rw [empty_eq] at M
  by_cases h1 : s.size ≤ 64
  · have d1 : decide (s.size ≤ 64) = true := by simpa using h1
    cases h2 : (allB isWordB s && !decide (s.size = 0)) <;> rw [h2] at M
    all_goals
      go_enter Tryd.func69, Tryd.ntmps69
      go_wp2_with (go_at_call 71; refine (M _).mono ?_; rintro e w' ⟨rfl, hw⟩; obtain rfl := hw.symm)
      go_ret
      refine ⟨?_, rfl⟩
      unfold isWord
      rw [← Bool.and_assoc (allB isWordB s), h2, d1]
      rfl
  · have d1 : decide (s.size ≤ 64) = false := by simpa using h1
    go_enter Tryd.func69, Tryd.ntmps69
    go_wp2_with fail
    go_ret
    refine ⟨?_, rfl⟩
    unfold isWord
    rw [d1]
    rfl

end Go.Proofs.YtooaojegdhamjaaDoor
