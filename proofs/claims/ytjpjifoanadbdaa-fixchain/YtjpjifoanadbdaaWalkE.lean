/-
  What 'MulDiv' and 'Mul' of the program answer, for all words, and that the statements' fixed answers ('awake') are met. Conditions: the arguments are words of 64 bits.
-/
import Derived.Test.YtjpjifoanadbdaaWalkD
import Derived.RowKit3
namespace Go.Proofs.Ytjpjifoanadbdaa
open Go.RowKit Go.Lib

theorem grown_trans {a b c : World} (h : Grown a b) (k : Grown b c) : Grown a c :=
  ⟨World.keptBut_trans h.1 k.1, fun x => (k.2.1 x).trans (h.2.1 x), Nat.le_trans h.2.2 k.2.2⟩
theorem grown_drewN (w : World) (n : Nat) : Grown w (w.drewN n) :=
  (Grown.refl w : Grown w w)

def mulDivI (a b c : Int) : Int := if capI c = 0 then 4611686018427387904 else capI (capI a * capI b / capI c)
def mulI (a b : Int) : Int := capI (capI a * capI b)

theorem mulDivI_one (a b : Int) : mulDivI a b 1 = mulI a b := by
  unfold mulDivI mulI
  have : capI 1 = 1 := by decide
  rw [this, if_neg (by decide), Int.ediv_one]

/-- The quotient is a word where the upper word is below what divides. -/
theorem quo_word {p c hi lo : Int} (h : hi * 18446744073709551616 + lo = p) (h0 : 0 ≤ hi) (hl : Word lo) (hc : hi < c) : Word (p / c) := by
  obtain ⟨l1, l2⟩ := hl
  refine ⟨Int.ediv_nonneg (by omega) (by omega), ?_⟩
  rw [Int.ediv_lt_iff_lt_mul (by omega)]; omega
theorem quo_big {p c hi lo : Int} (h : hi * 18446744073709551616 + lo = p) (hl : Word lo) (hc0 : 0 < c) (hc : c ≤ hi) : capI (p / c) = 4611686018427387904 := by
  obtain ⟨l1, l2⟩ := hl
  have : 18446744073709551616 ≤ p / c := by rw [Int.le_ediv_iff_mul_le hc0]; omega
  unfold capI; split <;> omega

set_option maxHeartbeats 400000 in
theorem mulDiv_any (a b c : Int) (w : World) (ha : Word a) (hb : Word b) (hc : Word c) :
    Calls Try.prog 16 #[.int .u64 a, .int .u64 b, .int .u64 c] w fun e w' => e = .returned (.int .u64 (mulDivI a b c)) ∧ Grown w w' := by
  have wa := capI_word ha; have wb := capI_word hb; have wc := capI_word hc
  have c2 := capI_hi hc
  have wh := mulHi_word wa wb; have wl := mulLo_word (capI a) (capI b)
  have hw := mul_words (capI a) (capI b)
  obtain ⟨h1, h2⟩ := id wh
  obtain ⟨c1, -⟩ := id wc
  by_cases t : capI c ≤ mulHi (capI a) (capI b)
  · have e : mulDivI a b c = 4611686018427387904 := by
      unfold mulDivI; split
      · rfl
      · exact quo_big hw wl (by omega) t
    rw [e]
    clear e hw
    go_enter Try.func16, Try.ntmps16
    go_wp2_with (first | (go_at_call 20; refine (capped_any _ _ (by assumption)).mono ?_; rintro e w' ⟨rfl, rfl⟩) | (go_at_call 24; refine (mul64_any _ _ _ (by assumption) (by assumption)).mono ?_; rintro e w' ⟨rfl, rfl⟩))
    go_ret; exact ⟨rfl, Grown.refl _⟩
  · have wq := quo_word hw h1 wl (Int.not_le.mp t)
    have e : mulDivI a b c = capI (capI a * capI b / capI c) := by
      unfold mulDivI; rw [if_neg (by omega)]
    rw [e]
    clear e
    by_cases z : mulHi (capI a) (capI b) = 0
    · rw [z] at hw t
      have hw' : mulLo (capI a) (capI b) = capI a * capI b := by omega
      rw [← hw'] at wq ⊢
      clear hw hw'
      have hp : 0 < capI c := by omega
      go_enter Try.func16, Try.ntmps16
      go_wp2_with (first | (go_at_call 20; refine (capped_any _ _ (by assumption)).mono ?_; rintro e w' ⟨rfl, rfl⟩) | (go_at_call 24; refine (mul64_any _ _ _ (by assumption) (by assumption)).mono ?_; rintro e w' ⟨rfl, rfl⟩; rw [z]) | (go_at_call 25; refine (div64_low _ _ _ wl wc hp).mono ?_; rintro e w' ⟨⟨r, rfl⟩, n, rfl⟩))
      go_ret; exact ⟨rfl, grown_drewN _ _⟩
    · rw [← hw] at wq ⊢
      clear hw
      have hp : 0 < mulHi (capI a) (capI b) := by omega
      have hlt : mulHi (capI a) (capI b) < capI c := by omega
      go_enter Try.func16, Try.ntmps16
      go_wp2_with (first | (go_at_call 20; refine (capped_any _ _ (by assumption)).mono ?_; rintro e w' ⟨rfl, rfl⟩) | (go_at_call 24; refine (mul64_any _ _ _ (by assumption) (by assumption)).mono ?_; rintro e w' ⟨rfl, rfl⟩) | (go_at_call 25; refine (div64_any _ _ _ _ wl wh wc hp hlt c2).mono ?_; rintro e w' ⟨⟨r, rfl⟩, rfl⟩))
      go_ret; exact ⟨rfl, Grown.refl _⟩

/-- What opening a uint64 hands over. -/
theorem word_of_wf {x : Int} (h : (Lit.int .u64 x).wf = true) : Word x := by
  simp [Lit.wf, IntKind.min, IntKind.max, IntKind.signed, IntKind.bits] at h
  exact ⟨by omega, by omega⟩
theorem word_of (n : Int) (h0 : 0 ≤ n) (h : n < 18446744073709551616) : Word n := ⟨h0, h⟩

set_option maxHeartbeats 400000 in
theorem mul_any (a b : Int) (w : World) (ha : Word a) (hb : Word b) :
    Calls Try.prog 14 #[.int .u64 a, .int .u64 b] w fun e w' => e = .returned (.int .u64 (mulI a b)) ∧ Grown w w' := by
  rw [← mulDivI_one]
  have h1 : Word 1 := word_of 1 (by decide) (by decide)
  go_enter Try.func14, Try.ntmps14
  go_wp2_with (go_at_call 16; refine (mulDiv_any _ _ _ _ ha hb h1).mono ?_; rintro e w' ⟨rfl, hg⟩)
  go_ret; exact ⟨rfl, hg⟩

set_option maxHeartbeats 400000 in
theorem awake_any (w : World) :
    Calls Try.prog 9 #[] w fun e w' => e = .returned (.bool true) ∧ Grown w w' := by
  have f1 : addI 4611686018427387903 5 = 4611686018427387904 := by decide
  have f2 : subI 7 5 = 2 := by decide
  have f3 : mulDivI 6 6 9 = 4 := by decide
  have f4 : cmpI 1 3 2 5 = -1 := by decide
  go_enter Try.func9, Try.ntmps9
  go_wp2_with (first
    | (go_at_call 10; refine (add_any _ _ _ (word_of _ (by decide) (by decide)) (word_of _ (by decide) (by decide))).mono ?_; rintro e w' ⟨rfl, rfl⟩)
    | (go_at_call 12; refine (sub_any _ _ _ (word_of _ (by decide) (by decide)) (word_of _ (by decide) (by decide))).mono ?_; rintro e w' ⟨rfl, rfl⟩)
    | (go_at_call 16; refine (mulDiv_any _ _ _ _ (word_of _ (by decide) (by decide)) (word_of _ (by decide) (by decide)) (word_of _ (by decide) (by decide))).mono ?_; rintro e w' ⟨rfl, hg⟩)
    | (go_at_call 18; refine (cmp_any _ _ _ _ _ (word_of _ (by decide) (by decide)) (word_of _ (by decide) (by decide)) (word_of _ (by decide) (by decide)) (word_of _ (by decide) (by decide))).mono ?_; rintro e w' ⟨rfl, rfl⟩))
  go_ret; exact ⟨rfl, hg⟩
end Go.Proofs.Ytjpjifoanadbdaa
