/-
  How a clock of the reference lies in memory; what 'first' answers of it. Conditions: as each theorem says them.
-/
import Derived.Test.YthamaiibknmeeaaRefA
import Derived.Test.YthamaiibknmeeaaAid
namespace Go.Proofs.Ythamaiibknmeeaa
open Go.RowKit Go.Lib Go.Sort Go.Maps

/-- The reference's clock in block rb: the moment t, and the dues of K, as they were set, in the slice v. -/
structure Ref (B : Nat) (w : World) (rb : Nat) (v : Value) (t : Int) (K : List (Int × Int)) : Prop where
  lt : rb < w.heap.size
  hB : B ≤ rb
  c0 : w.cell? ⟨rb, 0, none⟩ = some (.int .i64 t)
  c1 : w.cell? ⟨rb, 1, none⟩ = some v
  f0 : w.frozen? ⟨rb, 0, none⟩ = false
  f1 : w.frozen? ⟨rb, 1, none⟩ = false
  own : DOwn B w v K
  ne : ∀ g, v.ownBlock = some g → g ≠ rb
  n : K.length ≤ 4096

theorem Ref.kept {B : Nat} {w w' : World} {rb : Nat} {v : Value} {t : Int} {K : List (Int × Int)} {T : Nat → Prop} (h : Ref B w rb v t K) (k : Kept T w w') (h1 : ¬ T rb) (h2 : ∀ g, v.ownBlock = some g → ¬ T g) : Ref B w' rb v t K :=
  ⟨Nat.lt_of_lt_of_le h.lt k.size, h.hB, (k.cell h.lt h1).trans h.c0, (k.cell h.lt h1).trans h.c1, (k.frozen h.lt h1).trans h.f0, (k.frozen h.lt h1).trans h.f1, h.own.kept k h2, h.ne, h.n⟩
theorem Ref.below {B : Nat} {w w' : World} {rb : Nat} {v : Value} {t : Int} {K : List (Int × Int)} (h : Ref B w rb v t K) (k : Below w.heap.size w w') : Ref B w' rb v t K := h.kept (Kept.of_below k (fun _ => False)) id (fun _ _ => id)

/-- The place of the least of those before k. -/
def Least (K : List (Int × Int)) (k p : Nat) : Prop := p < k ∧ ∀ j, j < k → ¬ lt (K.getD j (0, 0)) (K.getD p (0, 0))
theorem Least.more {K : List (Int × Int)} {k p : Nat} (h : Least K k p) (c : ¬ lt (K.getD k (0, 0)) (K.getD p (0, 0))) : Least K (k + 1) p := by
  refine ⟨by have := h.1; omega, fun j hj => ?_⟩
  by_cases e : j = k
  · rw [e]; exact c
  · exact h.2 j (by omega)
theorem Least.next {K : List (Int × Int)} {k p : Nat} (h : Least K k p) (c : lt (K.getD k (0, 0)) (K.getD p (0, 0))) : Least K (k + 1) k := by
  refine ⟨by omega, fun j hj e => ?_⟩
  by_cases e' : j = k
  · rw [e'] at e; exact lt_irrefl _ e
  · exact h.2 j (by omega) (lt_trans e c)

theorem first_none {B : Nat} {w : World} {rb : Nat} {v : Value} {t : Int} (h : Ref B w rb v t []) : Calls Try.prog 28 #[.pointer (some ⟨rb, 0, none⟩)] w fun e w' => e = .returned (.int .i64 (-1)) ∧ w' = w := by
  obtain ⟨a, cap, rfl, _⟩ := h.own.form
  have c1 := h.c1
  simp only [List.length_nil] at c1
  clear h
  go_enter Try.func28, Try.ntmps28
  go_wp2
  go_loopw [3, 4] (fun b i wr => b = .int .i64 (-1) ∧ i = .int .i64 0 ∧ wr = w) (fun _ _ _ => 0)
  case atStart => exact ⟨rfl, rfl, rfl⟩
  case round =>
    obtain ⟨rfl, rfl, rfl⟩ := hrel
    go_wp2
    go_ret
    exact ⟨rfl, rfl⟩

set_option maxRecDepth 20000 in
set_option maxHeartbeats 8000000 in
theorem first_some {B : Nat} {w : World} {rb : Nat} {v : Value} {t : Int} {K : List (Int × Int)} (h : Ref B w rb v t K) (hK : 0 < K.length) :
    Calls Try.prog 28 #[.pointer (some ⟨rb, 0, none⟩)] w fun e w' => ∃ p, e = .returned (.int .i64 (p : Nat)) ∧ Least K K.length p ∧ Below w.heap.size w w' := by
  have c1 := h.c1
  have hlt := h.lt
  have hn := h.n
  obtain ⟨a, cap, rfl, _⟩ := h.own.form
  obtain ⟨g, rfl, hc⟩ := h.own.at hK
  have hg : g < w.heap.size := World.block_lt_of_cell? _ _ (hc 0 hK).1
  clear h
  go_enter Try.func28, Try.ntmps28
  go_wp2_with fail
  go_loopw [3, 4] (fun b i wr => ∃ k : Nat, k ≤ K.length ∧ i = .int .i64 k ∧ (k = 0 ∧ b = .int .i64 (-1) ∨ ∃ p : Nat, b = .int .i64 p ∧ Least K k p) ∧ Below w.heap.size w wr) (fun _ i _ => K.length - (intOf i).toNat)
  case atStart => exact ⟨0, Nat.zero_le _, rfl, .inl ⟨rfl, rfl⟩, Below.refl _ _⟩
  case round =>
    obtain ⟨k, hk, rfl, hb, bk⟩ := hrel
    have c1' := (bk.cell (p := ⟨rb, 1, none⟩) hlt).trans c1
    by_cases hl : k < K.length
    · have i1 : (k : Int) < (K.length : Int) := by omega
      rcases hb with ⟨rfl, rfl⟩ | ⟨p, rfl, hp⟩
      · clear hc c1
        go_wp2_with fail
        go_big_quiet (fail)
        go_wp2
        go_roundw
        case rel => exact ⟨1, by omega, by go_num, .inr ⟨0, rfl, by omega, fun j hj => by rw [show j = 0 by omega]; exact lt_irrefl _⟩, ⟨bk.os, bk.tape, bk.output, bk.size, bk.block⟩⟩
        case measure => simp [intOf]; omega
      · have hpl := hp.1
        have i2 : (p : Int) < (K.length : Int) := by omega
        have i3 : decide ((p : Int) < 0) = false := by rw [decide_eq_false_iff_not]; omega
        obtain ⟨x, hx⟩ : ∃ x, x = K.getD p (0, 0) := ⟨_, rfl⟩
        obtain ⟨y, hy⟩ : ∃ y, y = K.getD k (0, 0) := ⟨_, rfl⟩
        have x0 : wr.cell? ⟨g, p * 2, none⟩ = some (.int .i64 x.2) := by rw [hx]; exact (bk.cell (p := ⟨g, p * 2, none⟩) hg).trans (hc p (by omega)).1
        have x1 : wr.cell? ⟨g, p * 2 + 1, none⟩ = some (.int .i64 x.1) := by rw [hx]; exact (bk.cell (p := ⟨g, p * 2 + 1, none⟩) hg).trans (hc p (by omega)).2
        have y0 : wr.cell? ⟨g, k * 2, none⟩ = some (.int .i64 y.2) := by rw [hy]; exact (bk.cell (p := ⟨g, k * 2, none⟩) hg).trans (hc k hl).1
        have y1 : wr.cell? ⟨g, k * 2 + 1, none⟩ = some (.int .i64 y.1) := by rw [hy]; exact (bk.cell (p := ⟨g, k * 2 + 1, none⟩) hg).trans (hc k hl).2
        have more : ¬ lt y x → Least K (k + 1) p := fun c => hp.more (by rw [← hx, ← hy]; exact c)
        have next : lt y x → Least K (k + 1) k := fun c => hp.next (by rw [← hx, ← hy]; exact c)
        clear hc c1 hx hy hp
        by_cases c3 : y.1 < x.1
        · have L1 := next (.inl c3)
          have g1 : decide (y.1 < x.1) = true := by simpa using c3
          clear next more
          go_wp2_with fail
          go_big_quiet (fail)
          go_wp2
          go_roundw
          case rel => exact ⟨k + 1, by omega, by go_num, .inr ⟨k, rfl, L1⟩, ⟨bk.os, bk.tape, bk.output, bk.size, bk.block⟩⟩
          case measure => simp [intOf]; omega
        have g1 : decide (y.1 < x.1) = false := by simpa using c3
        by_cases c4 : y.1 = x.1
        · rw [c4] at y1 g1
          by_cases c5 : y.2 < x.2
          · have L1 := next (.inr ⟨c4, c5⟩)
            have g2 : decide (y.2 < x.2) = true := by simpa using c5
            clear next more c4 c3 g1
            go_wp2_with fail
            go_big_quiet (fail)
            go_wp2
            go_roundw
            case rel => exact ⟨k + 1, by omega, by go_num, .inr ⟨k, rfl, L1⟩, ⟨bk.os, bk.tape, bk.output, bk.size, bk.block⟩⟩
            case measure => simp [intOf]; omega
          · have L1 := more (by unfold lt; omega)
            have g2 : decide (y.2 < x.2) = false := by simpa using c5
            clear next more c4 c3 g1
            go_wp2_with fail
            go_big_quiet (fail)
            go_wp2
            go_roundw
            case rel => exact ⟨k + 1, by omega, by go_num, .inr ⟨p, rfl, L1⟩, ⟨bk.os, bk.tape, bk.output, bk.size, bk.block⟩⟩
            case measure => simp [intOf]; omega
        · have L1 := more (by unfold lt; omega)
          have g2 : (y.1 == x.1) = false := by simpa using c4
          clear next more
          go_wp2_with fail
          go_big_quiet (fail)
          go_wp2
          go_roundw
          case rel => exact ⟨k + 1, by omega, by go_num, .inr ⟨p, rfl, L1⟩, ⟨bk.os, bk.tape, bk.output, bk.size, bk.block⟩⟩
          case measure => simp [intOf]; omega
    · obtain rfl : k = K.length := by omega
      rcases hb with ⟨e, _⟩ | ⟨p, rfl, hp⟩
      · omega
      · clear hc c1
        go_wp2
        go_ret
        exact ⟨p, rfl, hp, bk⟩
end Go.Proofs.Ythamaiibknmeeaa
