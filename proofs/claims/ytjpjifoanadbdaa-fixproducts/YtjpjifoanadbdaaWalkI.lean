/-
  What 'MulDiv' of the reference answers, for all words: the quotient, bit by bit. Conditions: the arguments are words of 64 bits.
-/
import Derived.Test.YtjpjifoanadbdaaWalkH
import Derived.Deep.RegionWith
namespace Go.Proofs.Ytjpjifoanadbdaa
open Go.RowKit Go.Lib

/-- A number's highest digits, from the k-th on. -/
def top (Q : Int) (k : Nat) : Int := Q / 2 ^ k * 2 ^ k

theorem top_zero (Q : Int) : top Q 0 = Q := by unfold top; simp
theorem top_top (Q : Int) (h0 : 0 ≤ Q) (h : Q < 4611686018427387904) : top Q 62 = 0 := by
  unfold top; rw [Int.ediv_eq_zero_of_lt h0 (by simpa using h), Int.zero_mul]
theorem top_bd (Q : Int) (k : Nat) (h0 : 0 ≤ Q) : 0 ≤ top Q k ∧ top Q k ≤ Q := by
  have hp : (0 : Int) < 2 ^ k := Int.pow_pos (by decide)
  unfold top
  exact ⟨Int.mul_nonneg (Int.ediv_nonneg h0 (by omega)) (by omega), Int.ediv_mul_le _ (by omega)⟩
theorem top_step (Q : Int) (j : Nat) : (top Q j = top Q (j + 1) + 2 ^ j ∧ top Q (j + 1) + 2 ^ j ≤ Q) ∨ (top Q j = top Q (j + 1) ∧ Q < top Q (j + 1) + 2 ^ j) := by
  have hp : (0 : Int) < 2 ^ j := Int.pow_pos (by decide)
  have e : Q / 2 ^ (j + 1) = Q / 2 ^ j / 2 := by rw [Int.pow_succ, Int.ediv_ediv_of_nonneg (by omega)]
  have e2 : top Q (j + 1) = (Q / 2 ^ j / 2 * 2) * 2 ^ j := by
    unfold top; rw [e, Int.pow_succ, Int.mul_comm (2 ^ j) 2, Int.mul_assoc]
  have hQ : Q / 2 ^ j * 2 ^ j + Q % 2 ^ j = Q := Int.ediv_mul_add_emod _ _
  have hr0 : 0 ≤ Q % 2 ^ j := Int.emod_nonneg _ (by omega)
  have hr1 : Q % 2 ^ j < 2 ^ j := Int.emod_lt_of_pos _ hp
  rw [e2]
  unfold top
  have hb : Q / 2 ^ j = Q / 2 ^ j / 2 * 2 + 1 ∨ Q / 2 ^ j = Q / 2 ^ j / 2 * 2 := by omega
  rcases hb with hb | hb
  · left
    have : Q / 2 ^ j * 2 ^ j = Q / 2 ^ j / 2 * 2 * 2 ^ j + 2 ^ j := by
      have h2 := congrArg (· * (2 : Int) ^ j) hb
      simp only [Int.add_mul, Int.one_mul] at h2
      exact h2
    exact ⟨this, by omega⟩
  · right
    have : Q / 2 ^ j * 2 ^ j = Q / 2 ^ j / 2 * 2 * 2 ^ j := congrArg (· * (2 : Int) ^ j) hb
    exact ⟨this, by omega⟩
theorem bit_ways (P C : Int) (hC : 0 < C) (j : Nat) :
    (top (P / C) j = top (P / C) (j + 1) + 2 ^ j ∧ lessB P ((top (P / C) (j + 1) + 2 ^ j) * C) = false) ∨ (top (P / C) j = top (P / C) (j + 1) ∧ lessB P ((top (P / C) (j + 1) + 2 ^ j) * C) = true) := by
  rcases top_step (P / C) j with ⟨h1, h2⟩ | ⟨h1, h2⟩
  · rw [Int.le_ediv_iff_mul_le hC] at h2
    exact .inl ⟨h1, decide_eq_false (by omega)⟩
  · rw [Int.ediv_lt_iff_lt_mul hC] at h2
    exact .inr ⟨h1, decide_eq_true h2⟩

theorem pow_bd {j k : Nat} (h : j ≤ k) : (2 : Int) ^ j ≤ 2 ^ k := by
  have e : ∀ n : Nat, ((2 : Int) ^ n) = ((2 ^ n : Nat) : Int) := fun n => by rw [Int.natCast_pow]; rfl
  rw [e, e]
  exact Int.ofNat_le.mpr (Nat.pow_le_pow_right (by decide) h)

set_option maxHeartbeats 4000000 in
theorem refMulDiv_any (a b c : Int) (w : World) (ha : Word a) (hb : Word b) (hc : Word c) :
    Calls Try.prog 17 #[.int .u64 a, .int .u64 b, .int .u64 c] w fun e w' => e = .returned (.int .u64 (mulDivI a b c)) ∧ Gr w w' := by
  have wa := capI_word ha; have wb := capI_word hb; have wc := capI_word hc
  have c2 := capI_hi hc
  unfold mulDivI
  by_cases h0 : capI c = 0
  · rw [if_pos h0]
    have h0' : (capI c == 0) = true := by simpa using h0
    clear h0
    go_enter Try.func17, Try.ntmps17
    go_wp2_with (go_at_call 21; refine (in_any _ _ (by assumption)).mono ?_; rintro e w' ⟨rfl, rfl⟩)
    go_ret; exact ⟨rfl, Gr.refl _⟩
  · rw [if_neg h0]
    have h0' : (capI c == 0) = false := by simpa using h0
    have hp : 0 < capI c := by have := capI_lo hc; omega
    clear h0
    have ht : Two (capI a * capI b) := prod_lt wa wb
    have wcap : Word 4611686018427387904 := word_of _ (by decide) (by decide)
    have ht2 : Two (4611686018427387904 * capI c) := prod_lt wcap wc
    by_cases hl : capI a * capI b < 4611686018427387904 * capI c
    · have hlb : lessB (capI a * capI b) (4611686018427387904 * capI c) = true := decide_eq_true hl
      have hQ1 : capI a * capI b / capI c < 4611686018427387904 := by rw [Int.ediv_lt_iff_lt_mul hp]; exact hl
      have hQ0 : 0 ≤ capI a * capI b / capI c := Int.ediv_nonneg (mul_nn ha hb) (by omega)
      rw [capI_of_le (a := capI a * capI b / capI c) (by omega)]
      clear hl
      go_enter Try.func17, Try.ntmps17
      go_wp2_with (first
        | (go_at_call 21; refine (in_any _ _ (by assumption)).mono ?_; rintro e w' ⟨rfl, hw⟩; obtain rfl := hw.symm)
        | (go_at_call 23; refine (times_any (capI a) (capI b) _ wa wb).mono ?_; rintro e w1 ⟨rfl, hg1⟩))
      go_region_with (first
        | (go_at_call 23; refine (times_any 4611686018427387904 (capI c) _ wcap wc).mono ?_; rintro e w2 ⟨rfl, hg2⟩; have k1 := hg2.carry (b := w1.heap.size) (o := 0) (by simp) (by simp [go_sem]; rfl); have k2 := hg2.carry (b := w1.heap.size) (o := 1) (by simp) (by simp [go_sem]; rfl))
        | (go_at_call 26; refine (less_any (capI a * capI b) (4611686018427387904 * capI c) _ ht ht2).mono ?_; rintro e w3 ⟨rfl, hg3⟩))
      all_goals
        go_wp2_with fail
        have hz2 : w1.heap.size < w2.heap.size := Nat.lt_of_lt_of_le (by simp) hg2.size
        have q1 := hg3.carry hz2 k1
        have q2 := hg3.carry hz2 k2
        have hz3 : w1.heap.size < w3.heap.size := Nat.lt_of_lt_of_le hz2 hg3.size
        have g3 : Gr w w3 := ((hg1.alloc _ _).drew.trans hg2).trans hg3
        clear hg1 hg2 hg3 k1 k2 hz2 hlb ht2
        go_loopw [8, 9] (fun q i wr => ∃ k : Nat, k ≤ 62 ∧ i = .int .i64 ((k : Int) - 1) ∧ q = .int .u64 (top (capI a * capI b / capI c) k) ∧ Gr w wr ∧ w1.heap.size < wr.heap.size ∧ wr.cell? ⟨w1.heap.size, 0, none⟩ = some (.int .u64 (hiW (capI a * capI b))) ∧ wr.cell? ⟨w1.heap.size, 1, none⟩ = some (.int .u64 (loW (capI a * capI b)))) (fun _ i _ => (intOf i + 1).toNat)
        case atStart => exact ⟨62, by omega, rfl, by rw [top_top _ hQ0 hQ1], g3, hz3, q1, q2⟩
        case round =>
          clear q1 q2 hz3 g3
          obtain ⟨k, hk, rfl, rfl, hg, hz, q1, q2⟩ := hrel
          rcases k with _ | j
          · rw [top_zero]
            go_wp2
            go_ret; exact ⟨rfl, hg⟩
          · have ej : ((j + 1 : Nat) : Int) - 1 = (j : Int) := by omega
            rw [ej]
            have hways := bit_ways (capI a * capI b) (capI c) hp j
            have hbd := top_bd (capI a * capI b / capI c) (j + 1) hQ0
            have hpow : (2 : Int) ^ j ≤ 2305843009213693952 := pow_bd (k := 61) (by omega)
            have hpow0 : (0 : Int) < 2 ^ j := Int.pow_pos (by decide)
            generalize htq : top (capI a * capI b / capI c) (j + 1) = q at *
            generalize htt : (2 : Int) ^ j = t at *
            have wq : Word (q + t) := ⟨by omega, by omega⟩
            obtain ⟨wq1, wq2⟩ := id wq
            have ht2 : Two ((q + t) * capI c) := prod_lt wq wc
            have harg : Hid (IntKind.u64.wrap (q + IntKind.u64.wrap (2 ^ min (IntKind.u64.wrap (j : Int)).toNat 64)) = q + t) := by
              show _ = _
              have e1 : IntKind.u64.wrap (j : Int) = j := by rw [IntKind.wrap_u64]; omega
              have e2 : min j 64 = j := by omega
              rw [e1, Int.toNat_natCast, e2, htt]
              simp only [IntKind.wrap_u64]
              omega
            clear hQ0 hQ1 hbd
            rcases hways with ⟨hn, hlb⟩ | ⟨hn, hlb⟩
            all_goals
              go_wp2_with fail
              go_region_with (first
                | (go_at_call 23; rw [harg.out]; refine (times_any (q + t) (capI c) _ wq wc).mono ?_; rintro e w4 ⟨rfl, hg4⟩; have k1 := hg4.carry (b := w1.heap.size) (o := 0) hz q1; have k2 := hg4.carry (b := w1.heap.size) (o := 1) hz q2)
                | (go_at_call 26; refine (less_any (capI a * capI b) ((q + t) * capI c) _ ht ht2).mono ?_; rintro e w5 ⟨rfl, hg5⟩))
            all_goals
              go_wp2_with fail
              have hz4 : w1.heap.size < w4.heap.size := Nat.lt_of_lt_of_le hz hg4.size
              have g5 : Gr w w5 := (hg.drew.trans hg4).trans hg5
              have hz5 : w1.heap.size < w5.heap.size := Nat.lt_of_lt_of_le hz4 hg5.size
              have m1 := hg5.carry hz4 k1
              have m2 := hg5.carry hz4 k2
              go_roundw
              case rel => exact ⟨j, by omega, rfl, by rw [hn], g5, hz5, m1, m2⟩
              case measure => simp [intOf]
    · have hlb : lessB (capI a * capI b) (4611686018427387904 * capI c) = false := decide_eq_false hl
      have hQ : capI (capI a * capI b / capI c) = 4611686018427387904 := by
        have h2 : 4611686018427387904 ≤ capI a * capI b / capI c := by rw [Int.le_ediv_iff_mul_le hp]; omega
        unfold capI at h2 ⊢
        revert h2; split <;> omega
      rw [hQ]
      clear hl hQ
      go_enter Try.func17, Try.ntmps17
      go_wp2_with (first
        | (go_at_call 21; refine (in_any _ _ (by assumption)).mono ?_; rintro e w' ⟨rfl, hw⟩; obtain rfl := hw.symm)
        | (go_at_call 23; refine (times_any (capI a) (capI b) _ wa wb).mono ?_; rintro e w1 ⟨rfl, hg1⟩))
      go_region_with (first
        | (go_at_call 23; refine (times_any 4611686018427387904 (capI c) _ wcap wc).mono ?_; rintro e w2 ⟨rfl, hg2⟩; have k1 := hg2.carry (b := w1.heap.size) (o := 0) (by simp) (by simp [go_sem]; rfl); have k2 := hg2.carry (b := w1.heap.size) (o := 1) (by simp) (by simp [go_sem]; rfl))
        | (go_at_call 26; refine (less_any (capI a * capI b) (4611686018427387904 * capI c) _ ht ht2).mono ?_; rintro e w3 ⟨rfl, hg3⟩))
      all_goals
        go_wp2_with fail
        go_ret; exact ⟨rfl, ((hg1.alloc _ _).drew.trans hg2).trans hg3⟩
end Go.Proofs.Ytjpjifoanadbdaa
