/-
  Plain arithmetic under 'Div64': a number of two words divided by a word, digit by digit of base 2^32. Conditions: those that each lemma states. No Go text is walked here.
-/
import Derived.Test.YtjpjifoanadbdaaWalkB
namespace Go.Proofs.Ytjpjifoanadbdaa
open Go.RowKit Go.Lib

theorem maskI (a : Int) (h0 : 0 ≤ a) (h : a < 18446744073709551616) : bits .and .u64 a 4294967295 = a % 4294967296 := by
  obtain ⟨n, rfl⟩ := Int.eq_ofNat_of_zero_le h0
  rw [maskN n (by omega)]; omega

theorem orI (a b : Int) (s : Nat) (ha : 0 ≤ a) (hb : 0 ≤ b) (hbs : b < 2 ^ s) (hlt : a * 2 ^ s + b < 18446744073709551616) :
    bits .or .u64 (a * 2 ^ s) b = a * 2 ^ s + b := by
  obtain ⟨n, rfl⟩ := Int.eq_ofNat_of_zero_le ha
  obtain ⟨m, rfl⟩ := Int.eq_ofNat_of_zero_le hb
  have hc : ((2 : Int) ^ s) = ((2 ^ s : Nat) : Int) := by rw [Int.natCast_pow]; rfl
  rw [hc] at hbs hlt
  rw [hc]
  have hm : m < 2 ^ s := by omega
  have e : ((n : Int) * ((2 ^ s : Nat) : Int)) = ((n * 2 ^ s : Nat) : Int) := (Int.natCast_mul _ _).symm
  rw [e] at hlt
  have h := bits_or_u64_nat (n * 2 ^ s) m (by omega) (by omega)
  have e2 := Nat.two_pow_add_eq_or_of_lt hm n
  rw [Nat.mul_comm (2 ^ s) n] at e2
  rw [← e2] at h
  rw [e, h, Int.natCast_add]

/-- What 'Div64' makes of its numbers ahead of its two loops. -/
theorem norm_ex (hi lo y : Int) (s : Nat) (hl : Word lo) (hh : 0 ≤ hi) (h1 : hi < y) (hs63 : s ≤ 63)
    (hs1 : 9223372036854775808 ≤ y * 2 ^ s) (hs2 : y * 2 ^ s < 18446744073709551616) :
    ∃ Y yn1 yn0 u v v1 v0 : Int,
      y * 2 ^ s = Y ∧ Y / 4294967296 = yn1 ∧ bits .and .u64 Y 4294967295 = yn0 ∧
      bits .or .u64 (IntKind.u64.wrap (hi * 2 ^ s)) (lo / 2 ^ (64 - s)) = u ∧ IntKind.u64.wrap (lo * 2 ^ s) = v ∧ v / 4294967296 = v1 ∧ bits .and .u64 v 4294967295 = v0 ∧
      0 ≤ u ∧ u < Y ∧ Y = yn1 * 4294967296 + yn0 ∧ 2147483648 ≤ yn1 ∧ yn1 < 4294967296 ∧ 0 ≤ yn0 ∧ yn0 < 4294967296 ∧ Y < 18446744073709551616 ∧
      0 ≤ v1 ∧ v1 < 4294967296 ∧ 0 ≤ v0 ∧ v0 < 4294967296 ∧ 0 ≤ v ∧ v < 18446744073709551616 ∧
      (u * 18446744073709551616 + (v1 * 4294967296 + v0)) / Y = (hi * 18446744073709551616 + lo) / y := by
  obtain ⟨l1, l2⟩ := hl
  have hP : (0 : Int) < 2 ^ s := Int.pow_pos (by decide)
  have hR : (0 : Int) < 2 ^ (64 - s) := Int.pow_pos (by decide)
  have hPR : (2 : Int) ^ (64 - s) * 2 ^ s = 18446744073709551616 := by
    rw [← Int.pow_add, show 64 - s + s = 64 by omega]; decide
  generalize hPe : (2 : Int) ^ s = P at *
  generalize hRe : (2 : Int) ^ (64 - s) = R at *
  have hhP : hi * P ≤ y * P - P := by
    have : (hi + 1) * P ≤ y * P := Int.mul_le_mul_of_nonneg_right (by omega) (by omega)
    rw [Int.add_mul] at this; omega
  have hhP0 : 0 ≤ hi * P := Int.mul_nonneg hh (by omega)
  -- the digits of lo
  have hq0 : 0 ≤ lo / R := Int.ediv_nonneg l1 (by omega)
  have hq1 : lo / R < P := by
    rw [Int.ediv_lt_iff_lt_mul hR, Int.mul_comm, hPR]; exact l2
  have hr0 : 0 ≤ lo % R := Int.emod_nonneg _ (by omega)
  have hr1 : lo % R < R := Int.emod_lt_of_pos _ hR
  have hlo : lo / R * R + lo % R = lo := Int.ediv_mul_add_emod _ _
  have hrP0 : 0 ≤ lo % R * P := Int.mul_nonneg hr0 (by omega)
  have hrP1 : lo % R * P < 18446744073709551616 := by
    rw [← hPR]; exact Int.mul_lt_mul_of_pos_right hr1 hP
  have hloP : lo * P = lo / R * 18446744073709551616 + lo % R * P := by
    have : lo * P = (lo / R * R + lo % R) * P := by rw [hlo]
    rw [this, Int.add_mul, Int.mul_assoc, hPR]
  have hwhi : IntKind.u64.wrap (hi * P) = hi * P := by rw [IntKind.wrap_u64]; omega
  have hwlo : IntKind.u64.wrap (lo * P) = lo % R * P := by rw [IntKind.wrap_u64, hloP]; omega
  have hor : bits .or .u64 (hi * P) (lo / R) = hi * P + lo / R := by
    have := orI hi (lo / R) s hh hq0 (by rw [hPe]; exact hq1) (by rw [hPe]; omega)
    rw [hPe] at this; exact this
  refine ⟨y * P, _, _, hi * P + lo / R, lo % R * P, _, _, rfl, rfl, maskI _ (by omega) (by omega), by rw [hwhi, hor], hwlo, rfl, maskI _ hrP0 hrP1, by omega, by omega, by omega, by omega, by omega, by omega, by omega, by omega, by omega, by omega, by omega, by omega, by omega, by omega, ?_⟩
  have e : (hi * P + lo / R) * 18446744073709551616 + (lo % R * P / 4294967296 * 4294967296 + lo % R * P % 4294967296) = P * (hi * 18446744073709551616 + lo) := by
    have e1 : P * (hi * 18446744073709551616 + lo) = hi * P * 18446744073709551616 + lo * P := by
      rw [Int.mul_add, ← Int.mul_assoc, Int.mul_comm P hi, Int.mul_comm P lo]
    rw [e1, hloP]; omega
  rw [e, Int.mul_comm y P]
  exact Int.mul_ediv_mul_of_pos _ _ hP

/-- The digit that a two-digit division asks for. -/
def IsQ (u v Y q : Int) : Prop := 0 ≤ q ∧ q < 4294967296 ∧ q * Y ≤ u * 4294967296 + v ∧ u * 4294967296 + v < q * Y + Y

theorem isQ_ex (u v Y : Int) (hu : 0 ≤ u) (hY : u < Y) (hv : 0 ≤ v) (hv1 : v < 4294967296) : ∃ q, IsQ u v Y q := by
  have hp : 0 < Y := by omega
  refine ⟨(u * 4294967296 + v) / Y, Int.ediv_nonneg (by omega) (by omega), ?_, Int.ediv_mul_le _ (by omega), ?_⟩
  · rw [Int.ediv_lt_iff_lt_mul hp]; omega
  · have := Int.lt_ediv_add_one_mul_self (u * 4294967296 + v) hp
    rwa [Int.add_mul, Int.one_mul] at this

theorem isQ_above {u v Y q qh rh yn1 yn0 : Int} (h : IsQ u v Y q) (hY0 : 0 < Y) (hY : Y = yn1 * 4294967296 + yn0) (hq : qh * yn1 + rh = u) (ht : 4294967296 * rh + v < qh * yn0) : q < qh := by
  obtain ⟨a, b, c, d⟩ := h
  refine Int.not_le.mp fun hle => ?_
  have h1 : qh * Y ≤ q * Y := Int.mul_le_mul_of_nonneg_right hle (by omega)
  have h2 : qh * Y = qh * yn1 * 4294967296 + qh * yn0 := by rw [hY, Int.mul_add, Int.mul_assoc]
  omega

theorem isQ_below {u v Y q qh rh yn1 yn0 : Int} (h : IsQ u v Y q) (hY0 : 0 < Y) (hY : Y = yn1 * 4294967296 + yn0) (hq : qh * yn1 + rh = u) (ht : qh * yn0 ≤ 4294967296 * rh + v) : qh ≤ q := by
  obtain ⟨a, b, c, d⟩ := h
  refine Int.not_lt.mp fun hlt => ?_
  have h1 : (q + 1) * Y ≤ qh * Y := Int.mul_le_mul_of_nonneg_right (by omega) (by omega)
  rw [Int.add_mul, Int.one_mul] at h1
  have h2 : qh * Y = qh * yn1 * 4294967296 + qh * yn0 := by rw [hY, Int.mul_add, Int.mul_assoc]
  omega

/-- The first guess. -/
theorem guess_bd (u Y yn1 yn0 : Int) (hu : 0 ≤ u) (huY : u < Y) (hY : Y = yn1 * 4294967296 + yn0) (h1 : 2147483648 ≤ yn1) (h3 : yn0 < 4294967296) :
    0 ≤ u / yn1 ∧ u / yn1 ≤ 4294967297 ∧ 0 ≤ u / yn1 * yn1 ∧ u / yn1 * yn1 ≤ u ∧ u < u / yn1 * yn1 + yn1 := by
  have hp : 0 < yn1 := by omega
  have h0 : 0 ≤ u / yn1 := Int.ediv_nonneg hu (by omega)
  refine ⟨h0, ?_, Int.mul_nonneg h0 (by omega), Int.ediv_mul_le _ (by omega), ?_⟩
  · have : u / yn1 < 4294967298 := by rw [Int.ediv_lt_iff_lt_mul hp]; omega
    omega
  · have := Int.lt_ediv_add_one_mul_self u hp
    rwa [Int.add_mul, Int.one_mul] at this

theorem isQ_guess {u v Y q yn1 yn0 : Int} (h : IsQ u v Y q) (hv : v < 4294967296) (hY : Y = yn1 * 4294967296 + yn0) (h1 : 2147483648 ≤ yn1) (h3 : 0 ≤ yn0) : q ≤ u / yn1 := by
  obtain ⟨a, b, c, d⟩ := h
  rw [Int.le_ediv_iff_mul_le (by omega)]
  have h2 : q * Y = q * yn1 * 4294967296 + q * yn0 := by rw [hY, Int.mul_add, Int.mul_assoc]
  have h4 : 0 ≤ q * yn0 := Int.mul_nonneg a h3
  omega

/-- Where the rest is too great already, the digit is right. -/
theorem isQ_break {u v Y q qh rh yn1 yn0 : Int} (h : IsQ u v Y q) (hY0 : 0 < Y) (hY : Y = yn1 * 4294967296 + yn0) (hv : 0 ≤ v) (hq : qh * yn1 + rh = u) (h2 : q < qh) (h3 : qh ≤ 4294967297) (h4 : 4294967296 ≤ rh + yn1) (h5 : 0 ≤ yn0) (h6 : yn0 < 4294967296) : qh = q + 1 := by
  have hq' : (qh - 1) * yn1 + (rh + yn1) = u := by rw [Int.sub_mul, Int.one_mul]; omega
  have hm : (qh - 1) * yn0 ≤ 4294967296 * yn0 := Int.mul_le_mul_of_nonneg_right (by omega) h5
  have := isQ_below h hY0 hY hq' (by omega)
  omega

theorem second (u v Y q : Int) (h : IsQ u v Y q) (hY : Y < 18446744073709551616) :
    ∃ u2 : Int, IntKind.u64.wrap (IntKind.u64.wrap (IntKind.u64.wrap (u * 4294967296) + v) - IntKind.u64.wrap (q * Y)) = u2 ∧ u2 = u * 4294967296 + v - q * Y ∧ 0 ≤ u2 ∧ u2 < Y := by
  obtain ⟨a, b, c, d⟩ := h
  refine ⟨u * 4294967296 + v - q * Y, ?_, rfl, by omega, by omega⟩
  simp only [IntKind.wrap_u64]
  omega

theorem prod_bd {q yn0 : Int} (h0 : 0 ≤ q) (h1 : q ≤ 4294967296) (h5 : 0 ≤ yn0) (h6 : yn0 < 4294967296) : 0 ≤ q * yn0 ∧ q * yn0 < 18446744073709551616 := by
  have hm : q * yn0 ≤ 4294967296 * yn0 := Int.mul_le_mul_of_nonneg_right (by omega) h5
  exact ⟨Int.mul_nonneg h0 h5, by omega⟩

/-- One round of a loop: it goes on, or ends with the digit, in one of three ways. -/
theorem round_ways {u v Y q qh rh yn1 yn0 : Int} (h : IsQ u v Y q) (hY0 : 0 < Y) (hY : Y = yn1 * 4294967296 + yn0) (hv : 0 ≤ v) (hq : qh * yn1 + rh = u) (h2 : q ≤ qh) (h3 : qh ≤ 4294967297) (h5 : 0 ≤ yn0) (h6 : yn0 < 4294967296) :
    (4294967296 ≤ qh ∧ rh + yn1 < 4294967296 ∧ q ≤ qh - 1) ∨ (qh < 4294967296 ∧ 4294967296 * rh + v < qh * yn0 ∧ rh + yn1 < 4294967296 ∧ q ≤ qh - 1) ∨
    (qh = q + 1 ∧ 4294967296 ≤ qh ∧ 4294967296 ≤ rh + yn1) ∨ (qh = q + 1 ∧ qh < 4294967296 ∧ 4294967296 * rh + v < qh * yn0 ∧ 4294967296 ≤ rh + yn1) ∨ (q = qh ∧ qh < 4294967296 ∧ qh * yn0 ≤ 4294967296 * rh + v) := by
  have hb := h.2.1
  by_cases t1 : 4294967296 ≤ qh
  · by_cases t3 : rh + yn1 < 4294967296
    · exact .inl ⟨t1, t3, by omega⟩
    · exact .inr (.inr (.inl ⟨isQ_break h hY0 hY hv hq (by omega) h3 (by omega) h5 h6, t1, by omega⟩))
  · by_cases t2 : 4294967296 * rh + v < qh * yn0
    · have hlt := isQ_above h hY0 hY hq t2
      by_cases t3 : rh + yn1 < 4294967296
      · exact .inr (.inl ⟨by omega, t2, t3, by omega⟩)
      · exact .inr (.inr (.inr (.inl ⟨isQ_break h hY0 hY hv hq hlt h3 (by omega) h5 h6, by omega, t2, by omega⟩)))
    · have hle := isQ_below h hY0 hY hq (by omega)
      exact .inr (.inr (.inr (.inr ⟨by omega, by omega, by omega⟩)))

theorem inv_next {u qh rh yn1 : Int} (h : qh * yn1 + rh = u) : (qh - 1) * yn1 + (rh + yn1) = u := by
  rw [Int.sub_mul, Int.one_mul]; omega

/-- Two digits make the quotient. -/
theorem quo_two {u v1 v0 Y q1 q0 : Int} (hY0 : 0 < Y) (h1 : IsQ u v1 Y q1) (h0 : IsQ (u * 4294967296 + v1 - q1 * Y) v0 Y q0) :
    (u * 18446744073709551616 + (v1 * 4294967296 + v0)) / Y = q1 * 4294967296 + q0 := by
  obtain ⟨a, b, c, d⟩ := h1; obtain ⟨a', b', c', d'⟩ := h0
  have e : u * 18446744073709551616 + (v1 * 4294967296 + v0) = ((u * 4294967296 + v1 - q1 * Y) * 4294967296 + v0 - q0 * Y) + (q1 * 4294967296 + q0) * Y := by
    rw [Int.add_mul, Int.mul_right_comm q1 4294967296 Y]; omega
  rw [e, Int.add_mul_ediv_right _ _ (by omega), Int.ediv_eq_zero_of_lt (by omega) (by omega)]; omega
end Go.Proofs.Ytjpjifoanadbdaa
