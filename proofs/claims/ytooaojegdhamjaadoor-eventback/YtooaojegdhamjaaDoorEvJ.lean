/-
  Whether two lists of texts, two requests, two events are the same, as the program tells; and that the reference says so of events that are. Condition: what is compared lies in memory.
-/
import Derived.Test.YtooaojegdhamjaaDoorEvI
namespace Go.Proofs.YtooaojegdhamjaaDoor
open Go.RowKit Go.Lib

theorem gt_ext {L M : List ByteArray} (hl : L.length = M.length) (h : ∀ j, j < L.length → gt L j = gt M j) : L = M := by
  apply List.ext_getElem hl
  intro i h1 h2
  have := h i h1
  rwa [gt_eq h1, gt_eq h2] at this

theorem equal_ok (a b : Option Addr) (c1 c2 : Nat) (L M : List ByteArray) (w : World) (h1 : RowL w a L) (h2 : RowL w b M) (hn : L.length ≤ 9223372036854775807) :
    Calls Tryd.prog 42 #[.slice a L.length c1, .slice b M.length c2] w fun e w' => e = .returned (.bool (decide (L = M))) ∧ Below w.heap.size w w' := by
  by_cases hl : L.length = M.length
  · have HE : Hd ((∀ j, j < L.length → gt L j = gt M j) → decide (L = M) = true) := ⟨fun h => decide_eq_true (gt_ext hl h)⟩
    have HF : Hd (∀ j, gt L j ≠ gt M j → decide (L = M) = false) := ⟨fun j h => decide_eq_false fun e => h (by rw [e])⟩
    obtain ⟨n, hL⟩ : ∃ n, L.length = n := ⟨_, rfl⟩
    rw [← hl]
    have g1 : 0 < n → ∃ b off, a = some ⟨b, off, none⟩ ∧ b < w.heap.size ∧ ∀ k, k < n → w.cell? ⟨b, off + k, none⟩ = some (.string (gt L k)) := by rw [← hL]; exact h1
    have g2 : 0 < n → ∃ c off, b = some ⟨c, off, none⟩ ∧ c < w.heap.size ∧ ∀ k, k < n → w.cell? ⟨c, off + k, none⟩ = some (.string (gt M k)) := by rw [← hL, hl]; exact h2
    rw [hL] at hn ⊢
    rw [hL] at HE
    clear h1 h2 hL hl
    generalize decide (L = M) = r at *
    go_enter Tryd.func42, Tryd.ntmps42
    go_wp2
    go_loopw [13] (fun i wr => ∃ k : Nat, k ≤ n ∧ i = .int .i64 k ∧ Below w.heap.size w wr ∧ Hd (∀ j, j < k → gt L j = gt M j)) (fun i _ => n - (intOf i).toNat)
    case atStart => exact ⟨0, Nat.zero_le _, rfl, Below.refl _ _, ⟨fun j h => absurd h (Nat.not_lt_zero j)⟩⟩
    case round =>
      obtain ⟨k, hk, rfl, p3, hs⟩ := hrel
      by_cases hlt : k < n
      · obtain ⟨b1, o1, rfl, hb1, hc1⟩ := g1 (by omega)
        obtain ⟨b2, o2, rfl, hb2, hc2⟩ := g2 (by omega)
        have d1 := (p3.cell (p := ⟨b1, o1 + k, none⟩) hb1).trans (hc1 k hlt)
        have d2 := (p3.cell (p := ⟨b2, o2 + k, none⟩) hb2).trans (hc2 k hlt)
        clear g1 g2 hc1 hc2
        by_cases he : gt L k = gt M k
        · have hs' : Hd (∀ j, j < k + 1 → gt L j = gt M j) := ⟨fun j hj => by
            rcases Nat.lt_or_ge j k with h | h
            · exact hs.out j h
            · obtain rfl : j = k := by omega
              exact he⟩
          rw [← he] at d2
          clear he
          generalize gt L k = x at *
          go_wp2
          go_quiet (fail)
          go_wp2
          go_roundw
          case rel => exact ⟨k + 1, by omega, by go_num, ⟨p3.os, p3.tape, p3.output, p3.size, p3.block⟩, hs'⟩
          case measure => simp [intOf]; omega
        · have hr := HF.out k he
          subst hr
          have ne := str_ne he
          clear he HE HF hs
          generalize gt L k = x at *
          generalize gt M k = y at *
          go_wp2
          go_quiet (fail)
          go_wp2
          go_ret
          exact ⟨rfl, ⟨p3.os, p3.tape, p3.output, p3.size, p3.block⟩⟩
      · obtain rfl : k = n := by omega
        have hr := HE.out hs.out
        subst hr
        clear g1 g2 HE HF hs
        go_wp2
        go_ret
        exact ⟨rfl, p3⟩
  · have hr : decide (L = M) = false := decide_eq_false fun e => hl (by rw [e])
    rw [hr]
    have hne : ((L.length : Int) == (M.length : Int)) = false := by simp; omega
    clear h1 h2 hr hl
    generalize L.length = n at *
    generalize M.length = m at *
    go_enter Tryd.func42, Tryd.ntmps42
    go_wp2
    go_ret
    exact ⟨rfl, Below.refl _ _⟩

theorem rsamel_ok (a b : Option Addr) (c1 c2 : Nat) (L M : List ByteArray) (w : World) (h1 : RowL w a L) (h2 : RowL w b M) (hn : L.length ≤ 9223372036854775807) :
    Calls Tryd.prog 19 #[.slice a L.length c1, .slice b M.length c2] w fun e w' => e = .returned (.bool (decide (L = M))) ∧ Below w.heap.size w w' := by
  by_cases hl : L.length = M.length
  · have HE : Hd ((∀ j, j < L.length → gt L j = gt M j) → decide (L = M) = true) := ⟨fun h => decide_eq_true (gt_ext hl h)⟩
    have HF : Hd (∀ j, gt L j ≠ gt M j → decide (L = M) = false) := ⟨fun j h => decide_eq_false fun e => h (by rw [e])⟩
    obtain ⟨n, hL⟩ : ∃ n, L.length = n := ⟨_, rfl⟩
    rw [← hl]
    have g1 : 0 < n → ∃ b off, a = some ⟨b, off, none⟩ ∧ b < w.heap.size ∧ ∀ k, k < n → w.cell? ⟨b, off + k, none⟩ = some (.string (gt L k)) := by rw [← hL]; exact h1
    have g2 : 0 < n → ∃ c off, b = some ⟨c, off, none⟩ ∧ c < w.heap.size ∧ ∀ k, k < n → w.cell? ⟨c, off + k, none⟩ = some (.string (gt M k)) := by rw [← hL, hl]; exact h2
    rw [hL] at hn ⊢
    rw [hL] at HE
    clear h1 h2 hL hl
    generalize decide (L = M) = r at *
    go_enter Tryd.func19, Tryd.ntmps19
    go_wp2
    go_loopw [5] (fun i wr => ∃ k : Nat, k ≤ n ∧ i = .int .i64 k ∧ Below w.heap.size w wr ∧ Hd (∀ j, j < k → gt L j = gt M j)) (fun i _ => n - (intOf i).toNat)
    case atStart => exact ⟨0, Nat.zero_le _, rfl, Below.refl _ _, ⟨fun j h => absurd h (Nat.not_lt_zero j)⟩⟩
    case round =>
      obtain ⟨k, hk, rfl, p3, hs⟩ := hrel
      by_cases hlt : k < n
      · obtain ⟨b1, o1, rfl, hb1, hc1⟩ := g1 (by omega)
        obtain ⟨b2, o2, rfl, hb2, hc2⟩ := g2 (by omega)
        have d1 := (p3.cell (p := ⟨b1, o1 + k, none⟩) hb1).trans (hc1 k hlt)
        have d2 := (p3.cell (p := ⟨b2, o2 + k, none⟩) hb2).trans (hc2 k hlt)
        clear g1 g2 hc1 hc2
        by_cases he : gt L k = gt M k
        · have hs' : Hd (∀ j, j < k + 1 → gt L j = gt M j) := ⟨fun j hj => by
            rcases Nat.lt_or_ge j k with h | h
            · exact hs.out j h
            · obtain rfl : j = k := by omega
              exact he⟩
          rw [← he] at d2
          clear he
          generalize gt L k = x at *
          go_wp2
          go_quiet (fail)
          go_wp2
          go_roundw
          case rel => exact ⟨k + 1, by omega, by go_num, ⟨p3.os, p3.tape, p3.output, p3.size, p3.block⟩, hs'⟩
          case measure => simp [intOf]; omega
        · have hr := HF.out k he
          subst hr
          have ne := str_ne he
          clear he HE HF hs
          generalize gt L k = x at *
          generalize gt M k = y at *
          go_wp2
          go_quiet (fail)
          go_wp2
          go_ret
          exact ⟨rfl, ⟨p3.os, p3.tape, p3.output, p3.size, p3.block⟩⟩
      · obtain rfl : k = n := by omega
        have hr := HE.out hs.out
        subst hr
        clear g1 g2 HE HF hs
        go_wp2
        go_ret
        exact ⟨rfl, p3⟩
  · have hr : decide (L = M) = false := decide_eq_false fun e => hl (by rw [e])
    rw [hr]
    have hne : ((L.length : Int) == (M.length : Int)) = false := by simp; omega
    clear h1 h2 hr hl
    generalize L.length = n at *
    generalize M.length = m at *
    go_enter Tryd.func19, Tryd.ntmps19
    go_wp2
    go_ret
    exact ⟨rfl, Below.refl _ _⟩

end Go.Proofs.YtooaojegdhamjaaDoor
