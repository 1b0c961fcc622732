/-
  What 'part' and 'Same' of the reference answer, and rows of bounds in memory of the call's own. Conditions: the numbers lie where layer 18 has them; the bounds lie in memory.
-/
import Derived.Test.YtkohofiobpniiaaMth
namespace Go.Proofs.Ytkohofiobpniiaa
open Go.RowKit

theorem part_ok (n h : Int) (w : World) (h0 : 0 ≤ n) (h1 : n ≤ 4096) (h2 : 0 ≤ h) (h3 : h ≤ 1000) :
    Calls Try.prog 16 #[.int .i64 n, .int .i64 h] w fun e w' => e = .returned (.int .i64 (h * n / 100)) ∧ w' = w := by
  obtain ⟨m1, m2⟩ := hun_prod h2 h3 h0 h1
  have E : Hd (h * n / 100 = n * h / 100) := ⟨by rw [Int.mul_comm]⟩
  rw [Int.mul_comm] at m1 m2
  rw [E.out]
  clear E
  go_enter Try.func16, Try.ntmps16
  go_wp2
  go_loop [5, 6] (fun s q => ∃ y z : Int, s = .int .i64 y ∧ q = .int .i64 z ∧ 0 ≤ y ∧ 0 ≤ z ∧ y + 100 * z = n * h) (fun s _ => (intOf s).toNat)
  case atStart => exact ⟨n * h, 0, rfl, rfl, m1, Int.le_refl _, by omega⟩
  case round =>
    obtain ⟨y, z, rfl, rfl, y0, z0, e⟩ := hrel
    by_cases c : 100000 ≤ y
    · go_wp2
      go_round
      case rel => exact ⟨y - 100000, z + 1000, rfl, rfl, by omega, by omega, by omega⟩
      case measure => simp [intOf]; omega
    · go_wp2
      go_loop [5, 6] (fun s q => ∃ y z : Int, s = .int .i64 y ∧ q = .int .i64 z ∧ 0 ≤ y ∧ 0 ≤ z ∧ y + 100 * z = n * h) (fun s _ => (intOf s).toNat)
      case atStart => exact ⟨y, z, rfl, rfl, y0, z0, e⟩
      case round =>
        clear e y0 z0 c
        obtain ⟨y, z, rfl, rfl, y0, z0, e⟩ := hrel
        by_cases c : 100 ≤ y
        · go_wp2
          go_round
          case rel => exact ⟨y - 100, z + 1, rfl, rfl, by omega, by omega, by omega⟩
          case measure => simp [intOf]; omega
        · have ez : Hd (n * h / 100 = z) := ⟨by omega⟩
          clear e
          go_wp2
          go_ret
          exact ⟨congrArg (fun x => Ending.returned (Value.int .i64 x)) ez.out.symm, rfl⟩

/-- Are two lists of bounds the same? -/
theorem sameB_ok (a b : Option Addr) (n c1 c2 : Nat) (g : Nat → Bd) (w : World) (h1 : BdR w a n g) (h2 : BdR w b n g) (hn : n ≤ 64) :
    Calls Try.prog 10 #[.slice a n c1, .slice b n c2] w fun e w' => e = .returned (.bool true) ∧ Below w.heap.size w w' := by
  have H1 : Hd (BdR w a n g) := ⟨h1⟩
  have H2 : Hd (BdR w b n g) := ⟨h2⟩
  clear h1 h2
  go_enter Try.func10, Try.ntmps10
  go_wp2
  go_loopw [5] (fun i wr => ∃ k : Nat, k ≤ n ∧ i = .int .i64 k ∧ Below w.heap.size w wr) (fun i _ => n - (intOf i).toNat)
  case atStart => exact ⟨0, Nat.zero_le _, rfl, Below.refl _ _⟩
  case round =>
    obtain ⟨k, hk, rfl, p3⟩ := hrel
    by_cases hlt : k < n
    · obtain ⟨b1, o1, rfl, hb1, hc1⟩ := H1.out.carry p3 (by omega)
      obtain ⟨b2, o2, rfl, hb2, hc2⟩ := H2.out.carry p3 (by omega)
      obtain ⟨d0, d1, d2⟩ := hc1 k hlt
      obtain ⟨e0, e1, e2⟩ := hc2 k hlt
      clear hc1 hc2 hb1 hb2
      generalize g k = z at *
      obtain ⟨z0, z1, z2⟩ := z
      simp only at d0 d1 d2 e0 e1 e2
      have P : Hd (Below w.heap.size w wr) := ⟨p3⟩
      clear p3
      go_wp2
      go_quiet (fail)
      go_wp2
      go_roundw
      case rel => exact ⟨k + 1, by omega, by go_num, ⟨P.out.os, P.out.tape, P.out.output, P.out.size, P.out.block⟩⟩
      case measure => simp [intOf]; omega
    · obtain rfl : k = n := by omega
      go_wp2
      go_ret
      exact ⟨rfl, p3⟩

/-- The first k bounds, as cells. -/
def bdCs (G : Nat → Bd) : Nat → List Value
  | 0 => []
  | k + 1 => bdCs G k ++ bdC (G k)
theorem bdCs_len (G : Nat → Bd) : ∀ k, (bdCs G k).length = k * 3
  | 0 => rfl
  | k + 1 => by simp [bdCs, bdC, bdCs_len G k]; omega
theorem bdCs_at (G : Nat → Bd) : ∀ (n k j : Nat), k < n → j < 3 → (bdCs G n)[k * 3 + j]? = (bdC (G k))[j]?
  | 0, k, j, h, _ => by omega
  | n + 1, k, j, h, hj => by
    simp only [bdCs]
    by_cases c : k < n
    · rw [List.getElem?_append_left (by rw [bdCs_len]; omega)]
      exact bdCs_at G n k j c hj
    · obtain rfl : k = n := by omega
      rw [List.getElem?_append_right (by rw [bdCs_len]; omega), bdCs_len, show k * 3 + j - k * 3 = j by omega]
theorem bdC_one (b : Bd) : ∀ u ∈ bdC b, u.oneCell' = true := by
  intro u hu
  simp [bdC] at hu
  rcases hu with rfl | rfl | rfl <;> rfl
/-- How a row of the call's own is read. -/
theorem bd_owned {w : World} {base : Nat} {v : Value} {n : Nat} {G : Nat → Bd} (h : w.ownsRow base 35 3 v n (bdCs G n)) : ∃ a cap, v = .slice a n cap ∧ BdR w a n G := by
  rcases id h.2 with ⟨rfl, rfl⟩ | ⟨g, cap, cur, rfl, hb, hg, r⟩
  · exact ⟨none, 0, rfl, fun h => by omega⟩
  · refine ⟨some ⟨g, 0, none⟩, cap, rfl, fun hn => ⟨g, 0, rfl, (h.lt g rfl).2, fun k hk => ⟨?_, ?_, ?_⟩⟩⟩
    · rw [Nat.zero_add, h.cellAt _ (by omega)]; exact bdCs_at G n k 0 hk (by decide)
    · rw [Nat.zero_add, h.cellAt _ (by omega)]; exact bdCs_at G n k 1 hk (by decide)
    · rw [Nat.zero_add, h.cellAt _ (by omega)]; exact bdCs_at G n k 2 hk (by decide)
end Go.Proofs.Ytkohofiobpniiaa
