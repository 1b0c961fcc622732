/-
  What 'Less', 'Capped', 'Mul' and 'Cmp' of the reference answer, for all words. Conditions: the arguments are words of 64 bits, or the two words of a number of 128 bits.
-/
import Derived.Test.YtjpjifoanadbdaaWalkG
import Derived.Test.YtjpjifoanadbdaaMathF
namespace Go.Proofs.Ytjpjifoanadbdaa
open Go.RowKit Go.Lib

def lessB (x y : Int) : Bool := decide (x < y)

set_option maxHeartbeats 400000 in
theorem less_any (x y : Int) (w : World) (hx : Two x) (hy : Two y) :
    Calls Try.prog 26 #[.agg #[.int .u64 (hiW x), .int .u64 (loW x)], .agg #[.int .u64 (hiW y), .int .u64 (loW y)]] w fun e w' =>
      e = .returned (.bool (lessB x y)) ∧ Gr w w' := by
  obtain ⟨ah, al, e1, e2, ex, a1, a2, a3, a4⟩ := two_ex x hx
  obtain ⟨bh, bl, e3, e4, ey, b1, b2, b3, b4⟩ := two_ex y hy
  rw [e1, e2, e3, e4]
  have hw : (ah < bh ∧ lessB x y = true) ∨ (bh < ah ∧ (ah == bh) = false ∧ lessB x y = false) ∨ (ah = bh ∧ al < bl ∧ lessB x y = true) ∨ (ah = bh ∧ bl ≤ al ∧ lessB x y = false) := by
    unfold lessB
    rcases Int.lt_trichotomy ah bh with h | h | h
    · exact .inl ⟨h, decide_eq_true (by omega)⟩
    · by_cases h' : al < bl
      · exact .inr (.inr (.inl ⟨h, h', decide_eq_true (by omega)⟩))
      · exact .inr (.inr (.inr ⟨h, by omega, decide_eq_false (by omega)⟩))
    · exact .inr (.inl ⟨h, by simp; omega, decide_eq_false (by omega)⟩)
  clear e1 e2 e3 e4 ex ey
  rcases hw with ⟨t1, t2⟩ | ⟨t1, t2, t3⟩ | ⟨rfl, t2, t3⟩ | ⟨rfl, t2, t3⟩
  · rw [t2]; clear t2
    go_enter Try.func26, Try.ntmps26
    go_wp2
    go_ret
    exact ⟨rfl, ((Gr.refl w).alloc _ _).alloc _ _⟩
  · rw [t3]; clear t3
    go_enter Try.func26, Try.ntmps26
    go_wp2
    go_ret
    exact ⟨by simp; omega, ((Gr.refl w).alloc _ _).alloc _ _⟩
  · rw [t3]; clear t3
    go_enter Try.func26, Try.ntmps26
    go_wp2
    go_ret
    exact ⟨rfl, ((Gr.refl w).alloc _ _).alloc _ _⟩
  · rw [t3]; clear t3
    go_enter Try.func26, Try.ntmps26
    go_wp2
    go_ret
    exact ⟨by simp; omega, ((Gr.refl w).alloc _ _).alloc _ _⟩

set_option maxHeartbeats 400000 in
theorem cappedW_any (x : Int) (w : World) (hx : Two x) :
    Calls Try.prog 22 #[.agg #[.int .u64 (hiW x), .int .u64 (loW x)]] w fun e w' =>
      e = .returned (.int .u64 (capI x)) ∧ Gr w w' := by
  obtain ⟨ah, al, e1, e2, ex, a1, a2, a3, a4⟩ := two_ex x hx
  rw [e1, e2]
  have hw : (0 < ah ∧ capI x = 4611686018427387904) ∨ (ah = 0 ∧ 4611686018427387904 < al ∧ capI x = 4611686018427387904) ∨ (ah = 0 ∧ al ≤ 4611686018427387904 ∧ capI x = al) := by
    unfold capI
    by_cases h : 0 < ah
    · exact .inl ⟨h, by rw [if_neg (by omega)]⟩
    · by_cases h' : 4611686018427387904 < al
      · exact .inr (.inl ⟨by omega, h', by rw [if_neg (by omega)]⟩)
      · exact .inr (.inr ⟨by omega, by omega, by rw [if_pos (by omega)]; omega⟩)
  clear e1 e2 ex
  rcases hw with ⟨t1, t2⟩ | ⟨rfl, t2, t3⟩ | ⟨rfl, t2, t3⟩
  · rw [t2]; clear t2
    go_enter Try.func22, Try.ntmps22
    go_wp2
    go_ret
    exact ⟨rfl, (Gr.refl w).alloc _ _⟩
  · rw [t3]; clear t3
    go_enter Try.func22, Try.ntmps22
    go_wp2
    go_ret
    exact ⟨rfl, (Gr.refl w).alloc _ _⟩
  · rw [t3]; clear t3
    go_enter Try.func22, Try.ntmps22
    go_wp2
    go_ret
    exact ⟨rfl, (Gr.refl w).alloc _ _⟩

set_option maxHeartbeats 400000 in
theorem refMul_any (a b : Int) (w : World) (ha : Word a) (hb : Word b) :
    Calls Try.prog 15 #[.int .u64 a, .int .u64 b] w fun e w' => e = .returned (.int .u64 (mulI a b)) ∧ Gr w w' := by
  unfold mulI
  have wa := capI_word ha; have wb := capI_word hb
  have ht : Two (capI a * capI b) := prod_lt wa wb
  go_enter Try.func15, Try.ntmps15
  go_wp2_with (first
    | (go_at_call 21; refine (in_any _ _ (by assumption)).mono ?_; rintro e w' ⟨rfl, rfl⟩)
    | (go_at_call 23; refine (times_any (capI a) (capI b) _ wa wb).mono ?_; rintro e w1 ⟨rfl, hg1⟩)
    | (go_at_call 22; refine (cappedW_any (capI a * capI b) _ ht).mono ?_; rintro e w2 ⟨rfl, hg2⟩))
  go_ret
  exact ⟨rfl, hg1.trans hg2⟩

theorem cmpI_less {a b c d : Int} (hb : b ≠ 0) (hd : d ≠ 0) : (lessB (a * d) (c * b) = true ∧ cmpI a b c d = -1) ∨ (lessB (a * d) (c * b) = false ∧ lessB (c * b) (a * d) = true ∧ cmpI a b c d = 1) ∨ (lessB (a * d) (c * b) = false ∧ lessB (c * b) (a * d) = false ∧ cmpI a b c d = 0) := by
  unfold cmpI sgnI lessB
  rw [if_neg hb, if_neg hd]
  generalize a * d = x; generalize c * b = y
  rcases Int.lt_trichotomy x y with h | h | h
  · exact .inl ⟨decide_eq_true h, by rw [if_pos h]⟩
  · exact .inr (.inr ⟨decide_eq_false (by omega), decide_eq_false (by omega), by rw [if_neg (by omega), if_neg (by omega)]⟩)
  · exact .inr (.inl ⟨decide_eq_false (by omega), decide_eq_true h, by rw [if_neg (by omega), if_pos h]⟩)

set_option maxHeartbeats 400000 in
theorem refCmp_any (a b c d : Int) (w : World) (ha : Word a) (hb : Word b) (hc : Word c) (hd : Word d) :
    Calls Try.prog 19 #[.int .u64 a, .int .u64 b, .int .u64 c, .int .u64 d] w fun e w' => e = .returned (.int .i64 (cmpI a b c d)) ∧ Gr w w' := by
  by_cases h1 : b = 0
  · subst h1
    unfold cmpI
    by_cases h2 : d = 0
    · subst h2
      go_enter Try.func19, Try.ntmps19
      go_wp2
      all_goals (go_ret; exact ⟨rfl, Gr.refl _⟩)
    · have h2' : (d == 0) = false := by simpa using h2
      rw [if_neg h2]
      clear h2
      go_enter Try.func19, Try.ntmps19
      go_wp2
      all_goals (go_ret; exact ⟨rfl, Gr.refl _⟩)
  · have h1' : (b == 0) = false := by simpa using h1
    by_cases h2 : d = 0
    · subst h2
      unfold cmpI
      rw [if_neg h1]
      clear h1
      go_enter Try.func19, Try.ntmps19
      go_wp2
      all_goals (go_ret; exact ⟨rfl, Gr.refl _⟩)
    · have h2' : (d == 0) = false := by simpa using h2
      have hw := cmpI_less (a := a) (c := c) h1 h2
      clear h1 h2
      have t1 : Two (a * d) := prod_lt ha hd
      have t2 : Two (c * b) := prod_lt hc hb
      rcases hw with ⟨hl, hr⟩ | ⟨hl, hl2, hr⟩ | ⟨hl, hl2, hr⟩
      all_goals
        rw [hr]
        clear hr
        go_enter Try.func19, Try.ntmps19
        go_wp2_with fail
        go_at_call 23
        refine (times_any a d _ ha hd).mono ?_
        rintro e w1 ⟨rfl, hg1⟩
        go_wp2_with fail
        go_at_call 23
        refine (times_any c b _ hc hb).mono ?_
        rintro e w2 ⟨rfl, hg2⟩
        go_wp2_with fail
        go_at_call 26
        refine (less_any (a * d) (c * b) _ t1 t2).mono ?_
        rintro e w3 ⟨rfl, hg3⟩
        have g3 := (hg1.trans hg2).trans hg3
        clear hg1 hg2 hg3
        go_wp2_with fail
      · go_ret; exact ⟨rfl, g3⟩
      all_goals
        go_at_call 23
        refine (times_any c b _ hc hb).mono ?_
        rintro e w4 ⟨rfl, hg4⟩
        go_wp2_with fail
        go_at_call 23
        refine (times_any a d _ ha hd).mono ?_
        rintro e w5 ⟨rfl, hg5⟩
        go_wp2_with fail
        go_at_call 26
        refine (less_any (c * b) (a * d) _ t2 t1).mono ?_
        rintro e w6 ⟨rfl, hg6⟩
        have g6 := ((g3.trans hg4).trans hg5).trans hg6
        clear g3 hg4 hg5 hg6
        go_wp2
        go_ret; exact ⟨rfl, g6⟩
end Go.Proofs.Ytjpjifoanadbdaa
