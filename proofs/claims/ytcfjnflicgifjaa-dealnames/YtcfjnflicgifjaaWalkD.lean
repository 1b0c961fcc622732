/-
  What 'refusal' and 'Which' of the program answer, for any cards and any deck. Condition: the cards lie in memory.
-/
import Derived.Test.YtcfjnflicgifjaaWalkC
namespace Go.Proofs.Ytcfjnflicgifjaa
open Go.RowKit

/-- What Which refuses, as a number. -/
def refW (deck : Int) (n : Nat) (f : Nat → Int) : Int :=
  if refH deck n ≠ 0 then refH deck n else if ∃ k, k < n ∧ (f k < 0 ∨ deck ≤ f k) then 8 else if ∃ k, k < n ∧ ∃ j, j < k ∧ f j = f k then 5 else 0

theorem refW_bad {deck : Int} {n : Nat} {f : Nat → Int} (h : (refH deck n == 0) = false) : refW deck n f = refH deck n := by
  have : refH deck n ≠ 0 := by simpa using h
  simp [refW, this]
theorem refW_good {D n : Nat} {f : Nat → Int} (h : Good D n) : refW D n f = if ∃ k, k < n ∧ (f k < 0 ∨ (D : Int) ≤ f k) then 8 else if ∃ k, k < n ∧ ∃ j, j < k ∧ f j = f k then 5 else 0 := by
  simp [refW, h.ref]

theorem refusal_bad (deck : Int) (a : Option Addr) (n cap : Nat) (f : Nat → Int) (w : World) (h : (refH deck n == 0) = false) :
    Calls Try.prog 19 #[.slice a n cap, .int .i64 deck] w fun e w' => e = .returned (.int .i64 (refW deck n f)) ∧ w' = w := by
  have h' : (refH deck n != 0) = true := by simpa using h
  rw [refW_bad h]
  go_enter Try.func19, Try.ntmps19
  go_wp2_with (go_at_call 11; refine (hands_no _ _ _ h).mono ?_; rintro e w' ⟨rfl, hw⟩; obtain rfl := hw.symm)
  go_ret
  exact ⟨rfl, rfl⟩

theorem refusal_good (D : Nat) (a : Option Addr) (n cap : Nat) (f : Nat → Int) (w : World) (hr : Row w a n f) (hc : n ≤ cap) (h : Good D n) :
    Calls Try.prog 19 #[.slice a n cap, .int .i64 D] w fun e w' => e = .returned (.int .i64 (refW D n f)) ∧ w' = w := by
  obtain ⟨⟨hd0, hd1, hn0, hn1, hnd⟩, _⟩ := id h
  have E1 : Hid (refW D n f = if ∃ k, k < n ∧ (f k < 0 ∨ (D : Int) ≤ f k) then 8 else if ∃ k, k < n ∧ ∃ j, j < k ∧ f j = f k then 5 else 0) := refW_good h
  obtain ⟨b, off, rfl, hb, hcell⟩ := hr (by omega)
  have HC : Hid (∀ k, k < n → w.cell? ⟨b, off + k, none⟩ = some (.int .i64 (f k))) := hcell
  clear hcell
  go_enter Try.func19, Try.ntmps19
  go_wp2_with (go_at_call 11; refine (hands_yes _ _ _ h).mono ?_; rintro e w' ⟨rfl, hw⟩; obtain rfl := hw.symm)
  go_loop [23] (fun i => ∃ k : Nat, k ≤ n ∧ i = .int .i64 k ∧ Hid (∀ j, j < k → 0 ≤ f j ∧ f j < D)) (fun i => n - (intOf i).toNat)
  case atStart => exact ⟨0, Nat.zero_le _, rfl, fun j hj => absurd hj (Nat.not_lt_zero _)⟩
  case round =>
    obtain ⟨k, hk, rfl, hall⟩ := hrel
    by_cases hlt : k < n
    · have hcell := HC.out k hlt
      by_cases c1 : f k < 0
      · have E : Hid (refW D n f = 8) := by show _ = _; rw [E1.out, if_pos ⟨k, hlt, .inl c1⟩]
        go_wp2
        go_ret; exact ⟨congrArg (fun x => Ending.returned (Value.int .i64 x)) E.out.symm, rfl⟩
      by_cases c2 : (D : Int) ≤ f k
      · have E : Hid (refW D n f = 8) := by show _ = _; rw [E1.out, if_pos ⟨k, hlt, .inr c2⟩]
        go_wp2
        go_ret; exact ⟨congrArg (fun x => Ending.returned (Value.int .i64 x)) E.out.symm, rfl⟩
      go_wp2
      go_round
      case rel =>
        refine ⟨k + 1, by omega, by go_num, fun j hj => ?_⟩
        rcases Nat.lt_or_eq_of_le (Nat.le_of_lt_succ hj) with h | rfl
        · exact hall.out j h
        · exact ⟨by omega, by omega⟩
      case measure => simp [intOf]; omega
    · obtain rfl : k = n := by omega
      have E2 : Hid (refW D k f = if ∃ i, i < k ∧ ∃ j, j < i ∧ f j = f i then 5 else 0) := by
        show _ = _
        rw [E1.out, if_neg]
        rintro ⟨j, hj, h⟩
        have := hall.out j hj
        omega
      clear E1 hall
      go_wp2
      go_loop [37] (fun i => ∃ q : Nat, q ≤ k ∧ i = .int .i64 q ∧ Hid (∀ i, i < q → ∀ j, j < i → f j ≠ f i)) (fun i => k - (intOf i).toNat)
      case atStart => exact ⟨0, Nat.zero_le _, rfl, fun j hj => absurd hj (Nat.not_lt_zero _)⟩
      case round =>
        obtain ⟨q, hq, rfl, hall⟩ := hrel
        by_cases hlt2 : q < k
        · have hcell := HC.out q hlt2
          have hrq := hr.less (m := q) (by omega)
          go_wp2_with fail
          go_at_call 21
          refine (contains_any _ _ _ f _ _ hrq (by omega)).mono ?_
          rintro e w' ⟨y, rfl, hy, hw⟩
          obtain rfl := hw.symm
          have HY : Hid (y = true ↔ ∃ j, j < q ∧ f j = f q) := hy
          clear hy
          cases y with
          | true =>
            have E : Hid (refW D k f = 5) := by show _ = _; rw [E2.out, if_pos ⟨q, hlt2, HY.out.1 rfl⟩]
            clear HY
            go_wp2
            go_ret; exact ⟨congrArg (fun x => Ending.returned (Value.int .i64 x)) E.out.symm, rfl⟩
          | false =>
            have hn : Hid (∀ j, j < q → f j ≠ f q) := fun j hj e => by have := HY.out.2 ⟨j, hj, e⟩; cases this
            clear HY
            go_wp2
            go_round
            case rel =>
              refine ⟨q + 1, by omega, by go_num, fun i hi => ?_⟩
              rcases Nat.lt_or_eq_of_le (Nat.le_of_lt_succ hi) with h | rfl
              · exact hall.out i h
              · exact hn.out
            case measure => simp [intOf]; omega
        · obtain rfl : q = k := by omega
          have E : Hid (refW D q f = 0) := by
            show _ = _
            rw [E2.out, if_neg]
            rintro ⟨i, hi, j, hj, e⟩
            exact hall.out i hi j hj e
          go_wp2
          go_ret; exact ⟨congrArg (fun x => Ending.returned (Value.int .i64 x)) E.out.symm, rfl⟩

/-- Cards that are a hand of a deck. -/
structure IsHand (D n : Nat) (c : Nat → Nat) : Prop where
  lt : ∀ k, k < n → c k < D
  un : ∀ k, k < n → ∀ j, j < k → c j ≠ c k

theorem IsHand.ref {D n : Nat} {c : Nat → Nat} (h : IsHand D n c) (hg : Good D n) : refW D n (ints c) = 0 := by
  rw [refW_good hg, if_neg, if_neg]
  · rintro ⟨k, hk, j, hj, e⟩
    exact h.un k hk j hj (by unfold ints at e; omega)
  · rintro ⟨k, hk, e⟩
    have := h.lt k hk
    unfold ints at e
    omega
theorem isHand_of {D n : Nat} {f : Nat → Int} (hg : Good D n) (h : refW D n f = 0) : ∃ c, (∀ k, k < n → f k = ints c k) ∧ IsHand D n c := by
  rw [refW_good hg] at h
  split at h
  · simp at h
  rename_i h1
  split at h
  · simp at h
  rename_i h2
  have hr : ∀ k, k < n → 0 ≤ f k ∧ f k < D := fun k hk => by
    by_cases c : f k < 0 ∨ (D : Int) ≤ f k
    · exact absurd ⟨k, hk, c⟩ h1
    · omega
  refine ⟨fun k => (f k).toNat, fun k hk => by have := hr k hk; show f k = ((f k).toNat : Int); omega, ⟨fun k hk => by have := hr k hk; show (f k).toNat < D; omega, fun k hk j hj e => h2 ⟨k, hk, j, hj, ?_⟩⟩⟩
  have := hr k hk
  have := hr j (by omega)
  have e' : (f j).toNat = (f k).toNat := e
  omega
theorem IsHand.part {D n : Nat} {c : Nat → Nat} (h : IsHand D n c) {k : Nat} (hk : k ≤ n) : ∀ j, j < k → ∀ l, l < j → c l ≠ c j := fun j hj l hl => h.un j (by omega) l hl

theorem which_no (deck : Int) (a : Option Addr) (n cap : Nat) (f : Nat → Int) (w : World) (hr : Row w a n f) (hc : n ≤ cap) (h : (refW deck n f == 0) = false) :
    Calls Try.prog 15 #[.slice a n cap, .int .i64 deck] w fun e w' => e = .returned (.tuple #[.int .u64 0, .int .i64 (refW deck n f)]) ∧ w' = w := by
  have h' : (refW deck n f != 0) = true := by simpa using h
  have R : Calls Try.prog 19 #[.slice a n cap, .int .i64 deck] w fun e w' => e = .returned (.int .i64 (refW deck n f)) ∧ w' = w := by
    by_cases z : refH deck n = 0
    · obtain ⟨D, m, rfl, e, hg⟩ := good_of z
      obtain rfl : n = m := by omega
      exact refusal_good D a n cap f w hr hc hg
    · exact refusal_bad deck a n cap f w (by simpa using z)
  go_enter Try.func15, Try.ntmps15
  go_wp2_with (go_at_call 19; refine R.mono ?_; rintro e w' ⟨rfl, hw⟩; obtain rfl := hw.symm)
  go_ret2
  exact ⟨rfl, rfl⟩

theorem which_yes (D : Nat) (a : Option Addr) (n cap : Nat) (c : Nat → Nat) (w : World) (hr : Row w a n (ints c)) (hc : n ≤ cap) (hg : Good D n) (hh : IsHand D n c) :
    Calls Try.prog 15 #[.slice a n cap, .int .i64 D] w fun e w' => e = .returned (.tuple #[.int .u64 (dig D (rk c) n), .int .i64 0]) ∧ Below w.heap.size w w' := by
  obtain ⟨⟨hd0, hd1, hn0, hn1, hnd⟩, _⟩ := id hg
  have R := refusal_good D a n cap (ints c) w hr hc hg
  rw [hh.ref hg] at R
  obtain ⟨b, off, rfl, hb, hcell⟩ := hr (by omega)
  have HC : Hid (∀ k, k < n → w.cell? ⟨b, off + k, none⟩ = some (.int .i64 (ints c k))) := hcell
  clear hcell
  go_enter Try.func15, Try.ntmps15
  go_wp2_with (go_at_call 19; refine R.mono ?_; rintro e w' ⟨rfl, hw⟩; obtain rfl := hw.symm)
  clear R
  go_loopw [7, 8] (fun s i wr => ∃ q : Nat, q ≤ n ∧ i = .int .i64 ((q : Int) - 1) ∧ s = .int .u64 (up D (rk c) q (n - q) : Nat) ∧ Below w.heap.size w wr) (fun _ i _ => (intOf i + 1).toNat)
  case atStart => exact ⟨n, Nat.le_refl _, rfl, by rw [Nat.sub_self]; rfl, Below.refl _ _⟩
  case round =>
    obtain ⟨q, hq, rfl, rfl, p3⟩ := hrel
    by_cases hlt : 0 < q
    · obtain ⟨k, rfl⟩ : ∃ k, q = k + 1 := ⟨q - 1, by omega⟩
      rw [show ((k + 1 : Nat) : Int) - 1 = (k : Nat) by omega]
      have hcell : wr.cell? ⟨b, off + k, none⟩ = some (.int .i64 (c k : Nat)) := (p3.cell (p := ⟨b, off + k, none⟩) hb).trans (HC.out k (by omega))
      have hrk : Row wr (some ⟨b, off, none⟩) k (ints c) := (hr.carry p3).less (by omega)
      have hck := hh.lt k (by omega)
      obtain ⟨hk1, hk2⟩ := rk_free (hh.part (k := k) (by omega))
      have hB := fun m => below_any (some ⟨b, off, none⟩) k cap c (c k) (wr.drewN m) (hrk.drew m) (by omega)
      have eu : up D (rk c) k (n - k) = up D (rk c) (k + 1) (n - (k + 1)) * (D - k) + rk c k := by
        rw [show n - k = (n - (k + 1)) + 1 by omega]; rfl
      have hlo : up D (rk c) (k + 1) (n - (k + 1)) < 64 ^ 7 := Nat.lt_of_lt_of_le (up_lt hd1 _ _ (fun j h1 h2 => by have := hh.lt j (by omega); unfold rk; omega)) (Nat.pow_le_pow_right (by decide) (by omega))
      have hr1 : (c k : Int) - (cnt c k (c k) : Int) = (rk c k : Nat) := by unfold rk; omega
      have hr2 : rk c k < 64 := by unfold rk; omega
      have hp : up D (rk c) (k + 1) (n - (k + 1)) * (D - k) ≤ 64 ^ 7 * 64 := Nat.mul_le_mul (by omega) (by omega)
      have e0 : ((D : Int) - (k : Int)) = ((D - k : Nat) : Int) := by omega
      have EU : Hid (up D (rk c) k (n - k) = up D (rk c) (k + 1) (n - (k + 1)) * (D - k) + rk c k) := eu
      have hp' : ((up D (rk c) (k + 1) (n - (k + 1)) : Nat) : Int) * ((D - k : Nat) : Int) = (up D (rk c) (k + 1) (n - (k + 1)) * (D - k) : Nat) := by rw [Int.natCast_mul]
      have hb1 : cnt c k (c k) ≤ 64 := by omega
      clear eu hk1
      generalize hgu : up D (rk c) (k + 1) (n - (k + 1)) = u at *
      generalize hgd : D - k = d at *
      generalize hgr : rk c k = r at *
      generalize hgm : u * d = m at *
      generalize hgc : cnt c k (c k) = cc at *
      clear hgu hgd hgr hgm hgc
      go_wp2_with fail
      go_quiet ((go_at_call 20; with_reducible exact Calls.quiet_of_same (hB _)))
      go_wp2
      go_roundw
      case rel => exact ⟨k, by omega, rfl, by rw [EU.out]; go_num, ⟨p3.os, p3.tape, p3.output, p3.size, p3.block⟩⟩
      case measure => simp [intOf]
    · obtain rfl : q = 0 := by omega
      have E : Hid (up D (rk c) 0 n = dig D (rk c) n) := up_zero D (rk c) n
      rw [Nat.sub_zero]
      go_wp2
      go_ret2
      exact ⟨by rw [← E.out]; rfl, p3⟩
end Go.Proofs.Ytcfjnflicgifjaa
