/-
  What 'next' and 'refusal' of the program answer. Conditions: the lists' numbers lie in memory; of 'next' besides their bounds.
-/
import Derived.Test.YtcombbkhdnipkaaWalkA
namespace Go.Proofs.Ytcombbkhdnipkaa
open Go.RowKit

set_option maxRecDepth 20000 in
set_option maxHeartbeats 1000000 in
theorem next_any (a b d : Option Addr) (n c1 c2 c3 : Nat) (p h u : Nat → Int) (w : World) (h1 : Row w a n p) (h2 : Row w b n h) (h3 : Row w d n u) (hn : n ≤ 64)
    (hp : ∀ k, k < n → 0 ≤ p k ∧ p k ≤ 4096) (hu : ∀ k, k < n → 0 ≤ u k ∧ u k ≤ 1048576) :
    Calls Try.prog 23 #[.slice a n c1, .slice b n c2, .slice d n c3] w fun e w' => e = .returned (.int .i64 (nxt p h u n)) ∧ Below w.heap.size w w' := by
  go_enter Try.func23, Try.ntmps23
  go_wp2
  go_loopw [7, 11] (fun s i wr => ∃ k : Nat, k ≤ n ∧ i = .int .i64 k ∧ s = .int .i64 (nxt p h u k) ∧ Below w.heap.size w wr) (fun _ i _ => n - (intOf i).toNat)
  case atStart => exact ⟨0, Nat.zero_le _, rfl, rfl, Below.refl _ _⟩
  case round =>
    obtain ⟨k, hk, rfl, rfl, p3⟩ := hrel
    by_cases hlt : k < n
    · have r1 := h1.carry p3
      have r3 := h3.carry p3
      obtain ⟨b1, o1, rfl, hb1, hc1⟩ := h1 (by omega)
      obtain ⟨b2, o2, rfl, hb2, hc2⟩ := h2 (by omega)
      have d1 := (p3.cell (p := ⟨b1, o1 + k, none⟩) hb1).trans (hc1 k hlt)
      have d2 := (p3.cell (p := ⟨b2, o2 + k, none⟩) hb2).trans (hc2 k hlt)
      have hlt' : (k : Int) < (n : Int) := by omega
      clear hc1 hc2 h1 h2 h3
      by_cases t1 : p k < h k
      · rcases nxt_spec (p := p) (h := h) (u := u) (n := n) (fun j hj => (hu j hj).1) k hk with ⟨e, _⟩ | ⟨q, e, hq⟩
        · have e2 : nxt p h u (k + 1) = k := by simp only [nxt]; rw [if_pos ⟨t1, .inl (by omega)⟩]
          rw [e]
          clear e
          go_wp2
          go_quiet (fail)
          go_wp2
          go_roundw
          case rel => exact ⟨k + 1, by omega, by go_num, by rw [e2], ⟨p3.os, p3.tape, p3.output, p3.size, p3.block⟩⟩
          case measure => simp [intOf]; omega
        · have hqk : q < k := hq.2.1
          have g0 : decide ((q : Int) < 0) = false := by simp
          by_cases l : less p u k q
          · have e2 : nxt p h u (k + 1) = k := by simp only [nxt]; rw [if_pos ⟨t1, .inr (by rw [e]; exact l)⟩]
            have hl : decide (less p u k q) = true := by simpa using l
            rw [e]
            have H : ∀ m, Calls Try.prog 30 #[.slice (some ⟨b1, o1, none⟩) n c1, .slice d n c3, .int .i64 k, .int .i64 q] (wr.drewN m) fun e w' => e = .returned (.bool true) ∧ ∃ k, w' = (wr.drewN m).drewN k := by
              intro m
              rw [← hl]
              exact hasLess_any _ _ _ _ _ _ p u k q _ (r1.carry ⟨rfl, rfl, rfl, Nat.le_refl _, fun _ _ => rfl⟩) (r3.carry ⟨rfl, rfl, rfl, Nat.le_refl _, fun _ _ => rfl⟩) hlt (by omega) hlt (by omega) hn hn hp hu
            clear e l hl hq r1 r3 hp hu
            go_wp2
            go_quiet ((go_at_call 30; exact Calls.quiet_of (H _)))
            go_wp2
            go_roundw
            case rel => exact ⟨k + 1, by omega, by go_num, by rw [e2], ⟨p3.os, p3.tape, p3.output, p3.size, p3.block⟩⟩
            case measure => simp [intOf]; omega
          · have e2 : nxt p h u (k + 1) = q := by
              simp only [nxt]; rw [if_neg, e]; rw [e]; rintro ⟨_, h1 | h1⟩
              · omega
              · exact l h1
            have hl : decide (less p u k q) = false := by simpa using l
            rw [e]
            have H : ∀ m, Calls Try.prog 30 #[.slice (some ⟨b1, o1, none⟩) n c1, .slice d n c3, .int .i64 k, .int .i64 q] (wr.drewN m) fun e w' => e = .returned (.bool false) ∧ ∃ k, w' = (wr.drewN m).drewN k := by
              intro m
              rw [← hl]
              exact hasLess_any _ _ _ _ _ _ p u k q _ (r1.carry ⟨rfl, rfl, rfl, Nat.le_refl _, fun _ _ => rfl⟩) (r3.carry ⟨rfl, rfl, rfl, Nat.le_refl _, fun _ _ => rfl⟩) hlt (by omega) hlt (by omega) hn hn hp hu
            clear e l hl hq r1 r3 hp hu
            go_wp2
            go_quiet ((go_at_call 30; exact Calls.quiet_of (H _)))
            go_wp2
            go_roundw
            case rel => exact ⟨k + 1, by omega, by go_num, by rw [e2], ⟨p3.os, p3.tape, p3.output, p3.size, p3.block⟩⟩
            case measure => simp [intOf]; omega
      · have g1 : decide (p k < h k) = false := by simpa using t1
        have e2 : nxt p h u (k + 1) = nxt p h u k := by simp only [nxt]; rw [if_neg]; rintro ⟨h1, _⟩; exact t1 h1
        go_wp2
        go_quiet (fail)
        go_wp2
        go_roundw
        case rel => exact ⟨k + 1, by omega, by go_num, by rw [e2], ⟨p3.os, p3.tape, p3.output, p3.size, p3.block⟩⟩
        case measure => simp [intOf]; omega
    · obtain rfl : k = n := by omega
      clear h1 h2 h3 hp hu
      go_wp2
      go_ret; exact ⟨rfl, p3⟩

/-- What is asked of each: the document's ErrRange is the contrary. -/
abbrev Ok (l h u : Int) : Prop := 0 ≤ l ∧ l ≤ h ∧ h ≤ 4096 ∧ 0 ≤ u ∧ u ≤ 1048576

/-- The document's refusal, as a number. -/
def refI (total : Int) (n m l : Nat) (lo hi want : Nat → Int) : Int :=
  if total < 0 ∨ 4096 < total then 1 else if n ≠ m ∨ n ≠ l then 2 else if 16 < n then 3 else if ∃ k, k < n ∧ ¬ Ok (lo k) (hi k) (want k) then 8 else
  if total < sumTo lo n ∨ sumTo hi n < total then 6 else 0

theorem refI_zero {total : Int} {n m l : Nat} {lo hi want : Nat → Int} (h : refI total n m l lo hi want = 0) : n = m ∧ n = l ∧ Fits total n lo hi want := by
  unfold refI at h
  split at h
  · simp at h
  rename_i h1
  split at h
  · simp at h
  rename_i h2
  split at h
  · simp at h
  rename_i h3
  split at h
  · simp at h
  rename_i h4
  split at h
  · simp at h
  rename_i h5
  refine ⟨by omega, by omega, ⟨by omega, by omega, by omega, fun k hk => ?_, by omega, by omega⟩⟩
  by_cases c : Ok (lo k) (hi k) (want k)
  · exact c
  · exact absurd ⟨k, hk, c⟩ h4

theorem Fits.zero {total : Int} {n : Nat} {lo hi want : Nat → Int} (h : Fits total n lo hi want) : refI total n n n lo hi want = 0 := by
  have h1 := h.low
  have h2 := h.high
  have h3 := h.len
  have h4 := h.least
  have h5 := h.most
  unfold refI
  rw [if_neg (by omega), if_neg (by omega), if_neg (by omega), if_neg, if_neg (by omega)]
  rintro ⟨k, hk, c⟩
  exact c (h.each k hk)

set_option maxRecDepth 20000 in
set_option maxHeartbeats 1000000 in
theorem refusal_any (total : Int) (a b d : Option Addr) (n m l c1 c2 c3 : Nat) (lo hi want : Nat → Int) (w : World) (r1 : Row w a n lo) (r2 : Row w b m hi) (r3 : Row w d l want) :
    Calls Try.prog 21 #[.int .i64 total, .slice a n c1, .slice b m c2, .slice d l c3] w fun e w' => e = .returned (.int .i64 (refI total n m l lo hi want)) ∧ Below w.heap.size w w' := by
  by_cases t1 : total < 0
  · have e : refI total n m l lo hi want = 1 := by simp [refI, t1]
    rw [e]; clear e
    go_enter Try.func21, Try.ntmps21
    go_wp2
    go_ret; exact ⟨rfl, Below.refl _ _⟩
  by_cases t2 : 4096 < total
  · have e : refI total n m l lo hi want = 1 := by simp [refI, t2]
    rw [e]; clear e
    go_enter Try.func21, Try.ntmps21
    go_wp2
    go_ret; exact ⟨rfl, Below.refl _ _⟩
  have e0 : ¬ (total < 0 ∨ 4096 < total) := by omega
  by_cases t3 : n = m
  case neg =>
    have e : refI total n m l lo hi want = 2 := by unfold refI; rw [if_neg e0, if_pos (.inl t3)]
    rw [e]; clear e
    have t3' : ((n : Int) != (m : Int)) = true := by simp; omega
    go_enter Try.func21, Try.ntmps21
    go_wp2
    go_ret; exact ⟨rfl, Below.refl _ _⟩
  subst t3
  by_cases t4 : n = l
  case neg =>
    have e : refI total n n l lo hi want = 2 := by unfold refI; rw [if_neg e0, if_pos (.inr t4)]
    rw [e]; clear e
    have t4' : ((n : Int) != (l : Int)) = true := by simp; omega
    go_enter Try.func21, Try.ntmps21
    go_wp2
    go_ret; exact ⟨rfl, Below.refl _ _⟩
  subst t4
  by_cases t5 : 16 < n
  · have e : refI total n n n lo hi want = 3 := by unfold refI; rw [if_neg e0, if_neg (by omega), if_pos t5]
    rw [e]; clear e
    have t5' : (16 : Int) < (n : Int) := by omega
    go_enter Try.func21, Try.ntmps21
    go_wp2
    go_ret; exact ⟨rfl, Below.refl _ _⟩
  have E1 : Hid (refI total n n n lo hi want = if ∃ k, k < n ∧ ¬ Ok (lo k) (hi k) (want k) then 8 else if total < sumTo lo n ∨ sumTo hi n < total then 6 else 0) := by
    show _ = _
    unfold refI; rw [if_neg e0, if_neg (by omega), if_neg t5]
  have t5' : ¬ (16 : Int) < (n : Int) := by omega
  clear e0
  go_enter Try.func21, Try.ntmps21
  go_wp2
  go_loopw [33] (fun i wr => ∃ k : Nat, k ≤ n ∧ i = .int .i64 k ∧ Hid (∀ j, j < k → Ok (lo j) (hi j) (want j)) ∧ Below w.heap.size w wr) (fun i _ => n - (intOf i).toNat)
  case atStart => exact ⟨0, Nat.zero_le _, rfl, fun j hj => absurd hj (Nat.not_lt_zero _), Below.refl _ _⟩
  case round =>
    obtain ⟨k, hk, rfl, hall, p3⟩ := hrel
    by_cases hlt : k < n
    · obtain ⟨b1, o1, rfl, hb1, hc1⟩ := r1 (by omega)
      obtain ⟨b2, o2, rfl, hb2, hc2⟩ := r2 (by omega)
      obtain ⟨b3, o3, rfl, hb3, hc3⟩ := r3 (by omega)
      have d1 := (p3.cell (p := ⟨b1, o1 + k, none⟩) hb1).trans (hc1 k hlt)
      have d2 := (p3.cell (p := ⟨b2, o2 + k, none⟩) hb2).trans (hc2 k hlt)
      have d3 := (p3.cell (p := ⟨b3, o3 + k, none⟩) hb3).trans (hc3 k hlt)
      have hlt' : (k : Int) < (n : Int) := by omega
      clear hc1 hc2 hc3 r1 r2 r3
      by_cases c : Ok (lo k) (hi k) (want k)
      · have H : ∀ v, Calls Try.prog 29 #[.int .i64 (lo k), .int .i64 (hi k), .int .i64 (want k)] v fun e w' => e = .returned (.bool true) ∧ w' = v := by
          intro v
          have h := inBounds_any (lo k) (hi k) (want k) v
          rw [decide_eq_true (show 0 ≤ lo k ∧ lo k ≤ hi k ∧ hi k ≤ 4096 ∧ 0 ≤ want k ∧ want k ≤ 1048576 from c)] at h
          exact h
        go_wp2
        go_quiet ((go_at_call 29; exact Calls.quiet_of_same (H _)))
        go_wp2
        go_roundw
        case rel =>
          refine ⟨k + 1, by omega, by go_num, fun j hj => ?_, ⟨p3.os, p3.tape, p3.output, p3.size, p3.block⟩⟩
          rcases Nat.lt_or_eq_of_le (Nat.le_of_lt_succ hj) with h | rfl
          · exact hall.out j h
          · exact c
        case measure => simp [intOf]; omega
      · have H : ∀ v, Calls Try.prog 29 #[.int .i64 (lo k), .int .i64 (hi k), .int .i64 (want k)] v fun e w' => e = .returned (.bool false) ∧ w' = v := by
          intro v
          have h := inBounds_any (lo k) (hi k) (want k) v
          rw [decide_eq_false (show ¬ (0 ≤ lo k ∧ lo k ≤ hi k ∧ hi k ≤ 4096 ∧ 0 ≤ want k ∧ want k ≤ 1048576) from c)] at h
          exact h
        have E : Hid (refI total n n n lo hi want = 8) := by show _ = _; rw [E1.out, if_pos ⟨k, hlt, c⟩]
        go_wp2
        go_quiet ((go_at_call 29; exact Calls.quiet_of_same (H _)))
        go_wp2
        go_ret; exact ⟨congrArg (fun x => Ending.returned (Value.int .i64 x)) E.out.symm, ⟨p3.os, p3.tape, p3.output, p3.size, p3.block⟩⟩
    · obtain rfl : k = n := by omega
      have E2 : Hid (refI total k k k lo hi want = if total < sumTo lo k ∨ sumTo hi k < total then 6 else 0) := by
        show _ = _
        rw [E1.out, if_neg]
        rintro ⟨j, hj, h⟩
        exact h (hall.out j hj)
      have q1 := r1.carry p3
      have q2 := r2.carry p3
      have s1 : ∀ j, j < k → 0 ≤ lo j ∧ lo j ≤ 10000 := fun j hj => by have := hall.out j hj; unfold Ok at this; omega
      have s2 : ∀ j, j < k → 0 ≤ hi j ∧ hi j ≤ 10000 := fun j hj => by have := hall.out j hj; unfold Ok at this; omega
      clear r1 r2 r3 E1
      by_cases c1 : total < sumTo lo k
      · have E : Hid (refI total k k k lo hi want = 6) := by show _ = _; rw [E2.out, if_pos (.inl c1)]
        clear E2
        go_wp2_with (go_at_call 22; refine (sum_any _ _ _ lo _ q1 (by omega) s1).mono ?_; rintro e w' ⟨rfl, hw⟩; obtain rfl := hw.symm)
        go_ret; exact ⟨congrArg (fun x => Ending.returned (Value.int .i64 x)) E.out.symm, p3⟩
      by_cases c2 : sumTo hi k < total
      · have E : Hid (refI total k k k lo hi want = 6) := by show _ = _; rw [E2.out, if_pos (.inr c2)]
        clear E2
        go_wp2_with fail
        go_at_call 22
        refine (sum_any _ _ _ lo _ q1 (by omega) s1).mono ?_
        rintro e w' ⟨rfl, hw⟩; obtain rfl := hw.symm
        go_wp2_with (go_at_call 22; refine (sum_any _ _ _ hi _ q2 (by omega) s2).mono ?_; rintro e w' ⟨rfl, hw⟩; obtain rfl := hw.symm)
        go_ret; exact ⟨congrArg (fun x => Ending.returned (Value.int .i64 x)) E.out.symm, p3⟩
      have E : Hid (refI total k k k lo hi want = 0) := by show _ = _; rw [E2.out, if_neg (by omega)]
      clear E2
      go_wp2_with fail
      go_at_call 22
      refine (sum_any _ _ _ lo _ q1 (by omega) s1).mono ?_
      rintro e w' ⟨rfl, hw⟩; obtain rfl := hw.symm
      go_wp2_with (go_at_call 22; refine (sum_any _ _ _ hi _ q2 (by omega) s2).mono ?_; rintro e w' ⟨rfl, hw⟩; obtain rfl := hw.symm)
      go_ret; exact ⟨congrArg (fun x => Ending.returned (Value.int .i64 x)) E.out.symm, p3⟩
end Go.Proofs.Ytcombbkhdnipkaa
