/-
  What 'laid' of the statements and 'Same' of the reference answer. Conditions: as each theorem says them.
-/
import Derived.Test.YthamaiibknmeeaaRowd
namespace Go.Proofs.Ythamaiibknmeeaa
open Go.RowKit Go.Lib Go.Sort Go.Maps

theorem From.setAny {B : Nat} {w : World} {cb : Nat} {t : Int} {M : Int × Int → Prop} {n : Nat} (h : From B w cb t M n) (id at_ : Int) (hid : -9223372036854775808 ≤ id ∧ id < 9223372036854775808) :
    Calls Try.prog 10 #[.pointer (some ⟨cb, 0, none⟩), .int .i64 id, .int .i64 at_] w fun e w' => e = .returned (.int .i64 (setC t M n id at_)) ∧ From B w' cb t (setM t M n id at_) (setN t M n id at_) ∧ Below B w w' := by
  obtain ⟨g0, S, g1, g2⟩ := h
  refine (set_any g1 id at_ hid).mono ?_
  rintro e w' ⟨rfl, S', q1, q2, q3⟩
  have b := q2.below g0 g2
  refine ⟨rfl, ⟨Nat.le_trans g0 b.size, S', q1, fun k hk => ?_⟩, b⟩
  rcases q3 k hk with e | e
  · exact g2 k e
  · exact Nat.le_trans g0 e

/-- What is to be due when the first k of f were set, from the moment 0 on; how many. -/
def laidP (f : Nat → Int × Int) (k : Nat) (D : ∀ p : Prop, Decidable p := fun p => Classical.propDecidable p) : (Int × Int → Prop) × Nat :=
  match k with
  | 0 => (fun _ => False, 0)
  | k + 1 => (setM 0 (laidP f k D).1 (laidP f k D).2 (f k).2 (f k).1, setN 0 (laidP f k D).1 (laidP f k D).2 (f k).2 (f k).1 D)
def laidM (f : Nat → Int × Int) (k : Nat) : Int × Int → Prop := (laidP f k).1
def laidN (f : Nat → Int × Int) (k : Nat) (D : ∀ p : Prop, Decidable p := fun p => Classical.propDecidable p) : Nat := (laidP f k D).2
theorem laidN_zero (f : Nat → Int × Int) : laidN f 0 = 0 := rfl
theorem laidM_zero (f : Nat → Int × Int) : laidM f 0 = fun _ => False := rfl
theorem laidN_succ (f : Nat → Int × Int) (k : Nat) : laidN f (k + 1) = setN 0 (laidM f k) (laidN f k) (f k).2 (f k).1 := rfl
theorem laidM_succ (f : Nat → Int × Int) (k : Nat) : laidM f (k + 1) = setM 0 (laidM f k) (laidN f k) (f k).2 (f k).1 := rfl
theorem laidN_le (f : Nat → Int × Int) : ∀ k, laidN f k ≤ k
  | 0 => by rw [laidN_zero]; omega
  | k + 1 => by
    have := laidN_le f k
    rw [laidN_succ]
    unfold setN
    split <;> omega
theorem laidM_at (f : Nat → Int × Int) : ∀ k y, laidM f k y → ∃ i, i < k ∧ f i = y
  | 0, y, h => by exact False.elim h
  | k + 1, y, h => by
    rw [laidM_succ] at h
    rcases h with ⟨_, rfl⟩ | h
    · exact ⟨k, by omega, rfl⟩
    · obtain ⟨i, hi, e⟩ := laidM_at f k y h
      exact ⟨i, by omega, e⟩

theorem laid_any (a : Option Addr) (n cap : Nat) (f : Nat → Int × Int) (w : World) (hr : DRow w a n f) (hwf : ∀ k, k < n → WfD (f k)) (hn : n ≤ 9223372036854775807) (m : Nat) (m1 : m ≤ n) (m2 : m ≤ 300) (m3 : m = n ∨ m = 300) :
    Calls Try.prog 21 #[.slice a n cap] w fun e w' => ∃ cb, e = .returned (.tuple #[.pointer (some ⟨cb, 0, none⟩), .int .i64 (laidN f m)]) ∧ From w.heap.size w' cb 0 (laidM f m) (laidN f m) ∧ Below w.heap.size w w' := by
  have N := from_new w
  go_enter Try.func21, Try.ntmps21
  go_wp2_with fail
  go_at_call 9
  refine N.mono ?_
  rintro e w1 ⟨cb, rfl, H1, b1⟩
  clear N
  go_wp2_with fail
  go_loopw [5, 6] (fun c i wr => ∃ k : Nat, k ≤ m ∧ i = .int .i64 k ∧ c = .int .i64 (laidN f k) ∧ From w.heap.size wr cb 0 (laidM f k) (laidN f k) ∧ Below w.heap.size w wr) (fun _ i _ => n - (intOf i).toNat)
  case atStart => exact ⟨0, Nat.zero_le _, rfl, rfl, H1, b1⟩
  case round =>
    obtain ⟨k, hk, rfl, rfl, H, bk⟩ := hrel
    have hle := laidN_le f k
    by_cases hlt : k < m
    · have i1 : (k : Int) < (n : Int) := by omega
      have i2 : (k : Int) < 300 := by omega
      obtain ⟨b, off, rfl, hb, hc⟩ := hr (by omega)
      obtain ⟨c1, c2⟩ := hc k (by omega)
      have d1 := (bk.cell (p := ⟨b, off + k * 2, none⟩) hb).trans c1
      have d2 := (bk.cell (p := ⟨b, off + k * 2 + 1, none⟩) hb).trans c2
      have P := fun q => (H.below (w' := wr.drewN q) ⟨rfl, rfl, rfl, Nat.le_refl _, fun _ _ => rfl⟩).setAny (f k).2 (f k).1 (hwf k (by omega)).2
      clear hc hr H1 b1
      go_wp2_with fail
      refine region_tail 11 (by kernel_rfl) ?_
      simp only [List.take_succ_cons, List.take_zero, List.drop_succ_cons, List.drop_zero]
      repeat still_step
      refine wpStill_nil ?_
      go_wp2_with fail
      go_at_call 10
      refine (P _).mono ?_
      rintro e w2 ⟨rfl, H2, b2⟩
      have b3 : Below w.heap.size w w2 := Below.trans (show Below w.heap.size w (wr.drewN 1) from ⟨bk.os, bk.tape, bk.output, bk.size, bk.block⟩) b2
      rw [← laidM_succ, ← laidN_succ] at H2
      have hN := laidN_succ f k
      unfold setN at hN
      clear P H bk b2
      generalize setC 0 (laidM f k) (laidN f k) (f k).2 (f k).1 = code at *
      by_cases c : code = 0
      · rw [if_pos c] at hN
        have e' : (code == 0) = true := by simpa using c
        rw [hN] at H2
        go_wp2
        go_roundw
        case rel => exact ⟨k + 1, by omega, by go_num, by rw [hN]; go_num, by rw [hN]; exact H2, b3⟩
        case measure => simp [intOf]; omega
      · rw [if_neg c] at hN
        have e' : (code == 0) = false := by simpa using c
        go_wp2
        go_roundw
        case rel => exact ⟨k + 1, by omega, by go_num, by rw [hN], H2, b3⟩
        case measure => simp [intOf]; omega
    · obtain rfl : k = m := by omega
      clear hr H1 b1
      by_cases c : k < n
      · have i1 : (k : Int) < (n : Int) := by omega
        have i2 : ¬ (k : Int) < 300 := by omega
        clear m1 m2 m3 hlt hk
        go_wp2
        go_ret2
        exact ⟨cb, rfl, H, bk⟩
      · have i1 : ¬ (k : Int) < (n : Int) := by omega
        clear m1 m2 m3 hlt hk
        go_wp2
        go_ret2
        exact ⟨cb, rfl, H, bk⟩

theorem dsame_yes (a b : Option Addr) (n c1 c2 : Nat) (f g : Nat → Int × Int) (w : World) (h1 : DRow w a n f) (h2 : DRow w b n g) (hn : n ≤ 9223372036854775807) (h : ∀ k, k < n → f k = g k) :
    Calls Try.prog 16 #[.slice a n c1, .slice b n c2] w fun e w' => e = .returned (.bool true) ∧ Below w.heap.size w w' := by
  have H : Hid (∀ k, k < n → f k = g k) := h
  clear h
  go_enter Try.func16, Try.ntmps16
  go_wp2
  go_loopw [5] (fun i wr => ∃ k : Nat, k ≤ n ∧ i = .int .i64 k ∧ Below w.heap.size w wr) (fun i _ => n - (intOf i).toNat)
  case atStart => exact ⟨0, Nat.zero_le _, rfl, Below.refl _ _⟩
  case round =>
    obtain ⟨k, hk, rfl, p3⟩ := hrel
    by_cases hlt : k < n
    · obtain ⟨b1, o1, rfl, hb1, hc1⟩ := h1 (by omega)
      obtain ⟨b2, o2, rfl, hb2, hc2⟩ := h2 (by omega)
      have d1 := (p3.cell (p := ⟨b1, o1 + k * 2, none⟩) hb1).trans (hc1 k hlt).1
      have d2 := (p3.cell (p := ⟨b1, o1 + k * 2 + 1, none⟩) hb1).trans (hc1 k hlt).2
      have d3 := (p3.cell (p := ⟨b2, o2 + k * 2, none⟩) hb2).trans (hc2 k hlt).1
      have d4 := (p3.cell (p := ⟨b2, o2 + k * 2 + 1, none⟩) hb2).trans (hc2 k hlt).2
      rw [← H.out k hlt] at d3 d4
      have i1 : (k : Int) < (n : Int) := by omega
      clear h1 h2 hc1 hc2
      go_wp2_with fail
      refine region_still (by kernel_rfl) ?_
      repeat still_step
      refine wpStill_nil ?_
      go_wp2
      go_roundw
      case rel => exact ⟨k + 1, by omega, by go_num, ⟨p3.os, p3.tape, p3.output, p3.size, p3.block⟩⟩
      case measure => simp [intOf]; omega
    · obtain rfl : k = n := by omega
      clear h1 h2
      go_wp2
      go_ret
      exact ⟨rfl, p3⟩

/-- Two slices of the same dues are the same. -/
theorem DOwn.same {B C : Nat} {w : World} {u v : Value} {L : List (Int × Int)} (h : DOwn B w u L) (k : DOwn C w v L) : Calls Try.prog 16 #[u, v] w fun e w' => e = .returned (.bool true) ∧ Below w.heap.size w w' := by
  obtain ⟨a, c1, rfl, r1, _, hl, _⟩ := h.form
  obtain ⟨b, c2, rfl, r2, _, _, _⟩ := k.form
  unfold maxLen at hl
  exact dsame_yes a b _ c1 c2 _ _ w r1 r2 (by omega) (fun _ _ => rfl)
end Go.Proofs.Ythamaiibknmeeaa
