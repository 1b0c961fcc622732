/-
  'Same' of the reference at lists of texts, whatever they are. Condition: they lie in memory.
-/
import Derived.Test.YtlkoaldekmdcoaaGreatDoorQSmS
namespace Go.Proofs.YtlkoaldekmdcoaaGreatDoor
open Go.RowKit

theorem gt_ext {L M : List ByteArray} (hl : L.length = M.length) (h : ∀ j, j < L.length → gt L j = gt M j) : L = M := by
  apply List.ext_getElem hl
  intro k h1 h2
  have := h k h1
  rw [gt_eq h1, gt_eq h2] at this
  exact this
theorem sameL_dec (a b : Option Addr) (c1 c2 : Nat) (L M : List ByteArray) (w : World) (h1 : RowL w a L) (h2 : RowL w b M) (hn : L.length ≤ 9223372036854775807) :
    Calls Tryz.prog 61 #[.slice a L.length c1, .slice b M.length c2] w fun e w' => e = .returned (.bool (decide (L = M))) ∧ ∃ m, w' = w.drewN m := by
  by_cases hl : L.length = M.length
  · obtain ⟨n, hL⟩ : ∃ n, L.length = n := ⟨_, rfl⟩
    have hM : M.length = n := by rw [← hl]; exact hL
    rw [hL] at hn
    have g1 : 0 < n → ∃ b off, a = some ⟨b, off, none⟩ ∧ b < w.heap.size ∧ ∀ k, k < n → w.cell? ⟨b, off + k, none⟩ = some (.string (gt L k)) := by rw [← hL]; exact h1
    have g2 : 0 < n → ∃ c off, b = some ⟨c, off, none⟩ ∧ c < w.heap.size ∧ ∀ k, k < n → w.cell? ⟨c, off + k, none⟩ = some (.string (gt M k)) := by rw [← hM]; exact h2
    have HE : Hd ((∀ j, j < n → gt L j = gt M j) → decide (L = M) = true) := ⟨fun h => decide_eq_true (gt_ext hl (by rw [hL]; exact h))⟩
    have HNE : Hd (∀ j, gt L j ≠ gt M j → decide (L = M) = false) := ⟨fun j h => decide_eq_false (fun e => h (by rw [e]))⟩
    rw [hL, hM]
    clear h1 h2 hL hM hl
    generalize decide (L = M) = bb at *
    go_enter Tryz.func61, Tryz.ntmps61
    go_wp2
    go_loopw [5] (fun i wr => ∃ k m : Nat, k ≤ n ∧ i = .int .i64 k ∧ wr = w.drewN m ∧ Hd (∀ j, j < k → gt L j = gt M j)) (fun i _ => n - (intOf i).toNat)
    case atStart => exact ⟨0, 0, Nat.zero_le _, rfl, rfl, ⟨fun j h => absurd h (Nat.not_lt_zero _)⟩⟩
    case round =>
      obtain ⟨k, m, hk, rfl, rfl, hq⟩ := hrel
      by_cases hlt : k < n
      · obtain ⟨b1, o1, rfl, hb1, hc1⟩ := g1 (by omega)
        obtain ⟨b2, o2, rfl, hb2, hc2⟩ := g2 (by omega)
        have d1 := hc1 k hlt
        have d2 := hc2 k hlt
        have HK : Hd (k < n) := ⟨hlt⟩
        by_cases hx : gt L k = gt M k
        · have NX : Hd (∀ j, j < k + 1 → gt L j = gt M j) := ⟨fun j hj => by
            rcases Nat.lt_or_eq_of_le (Nat.le_of_lt_succ hj) with h | h
            · exact hq.out j h
            · subst h; exact hx⟩
          rw [← hx] at d2
          clear g1 g2 hc1 hc2 hx hq
          generalize gt L k = x at *
          go_wp2
          go_quiet (fail)
          go_wp2
          go_roundw
          case rel => exact ⟨k + 1, _, HK.out, by go_num, rfl, NX⟩
          case measure => have := HK.out; simp [intOf]; omega
        · have HF : Hd (bb = false) := ⟨HNE.out k hx⟩
          have q := str_isnt hx
          clear g1 g2 hc1 hc2 hx hq
          generalize gt L k = x at *
          generalize gt M k = y at *
          have q2 : (!(x.toList == y.toList)) = true := by rw [q]; rfl
          go_wp2
          go_quiet (fail)
          go_wp2
          go_ret
          exact ⟨by rw [HF.out]; rfl, _, World.drewN_drewN ..⟩
      · obtain rfl : k = n := by omega
        have HTT : Hd (bb = true) := ⟨HE.out hq.out⟩
        clear g1 g2
        go_wp2
        go_ret
        exact ⟨by rw [HTT.out]; rfl, m, rfl⟩
  · have HF : Hd (decide (L = M) = false) := ⟨decide_eq_false (fun e => hl (by rw [e]))⟩
    generalize decide (L = M) = bb at *
    generalize L.length = n at *
    generalize M.length = m at *
    clear h1 h2
    go_enter Tryz.func61, Tryz.ntmps61
    go_wp2
    go_ret
    exact ⟨by rw [HF.out]; rfl, 0, rfl⟩
theorem lsr_dec {w : World} {v v' : Value} {L M : List ByteArray} (h : LsR w v L) (h' : LsR w v' M) (m q : Nat) :
    Calls Tryz.prog 61 #[v, v'] ((w.drewN m).drewN q) fun e w' => e = .returned (.bool (decide (L = M))) ∧ ∃ k, w' = ((w.drewN m).drewN q).drewN k := by
  rw [World.drewN_drewN]
  obtain ⟨a, c, rfl, hr, -, hl, -⟩ := h
  obtain ⟨a', c', rfl, hr', -, -, -⟩ := h'
  exact sameL_dec a a' c c' L M (w.drewN (m + q)) (fun hn => hr hn) (fun hn => hr' hn) hl
theorem lsr_shape {w : World} {v : Value} {L : List ByteArray} (h : LsR w v L) : ∃ a c, v = .slice a L.length c := by
  obtain ⟨a, c, e, -⟩ := h
  exact ⟨a, c, e⟩
end Go.Proofs.YtlkoaldekmdcoaaGreatDoor
