/-
  Who has waited too long, by the program and by the reference. Conditions: the lane lies in memory, and is short.
-/
import Derived.Test.YtemmkkcfjhmomabWd
namespace Go.Proofs.Ytemmkkcfjhmomab
open Go.RowKit

/-- Who of the first k has waited too long. -/
def lateTo (now : Int) (L : List Tk) : Nat → List Tk
  | 0 => []
  | k + 1 => lateTo now L k ++ (if (gt L k).unt ≤ now then [gt L k] else [])
theorem lateTo_len (now : Int) (L : List Tk) : ∀ k, (lateTo now L k).length ≤ k
  | 0 => Nat.le_refl 0
  | k + 1 => by
    have := lateTo_len now L k
    simp only [lateTo, List.length_append]
    split <;> simp <;> omega
theorem lateTo_yes {now : Int} {L : List Tk} {k : Nat} (h : (gt L k).unt ≤ now) : lateTo now L (k + 1) = lateTo now L k ++ [gt L k] := by simp only [lateTo, if_pos h]
theorem lateTo_no {now : Int} {L : List Tk} {k : Nat} (h : ¬ (gt L k).unt ≤ now) : lateTo now L (k + 1) = lateTo now L k := by simp only [lateTo, if_neg h, List.append_nil]
/-- A row of the call's own that holds these tickets. -/
def OwnT (w : World) (B : Nat) (v : Value) (L : List Tk) : Prop := w.ownsRow B 30 5 v L.length (tkCs L)
theorem OwnT.add {w : World} {B : Nat} {v : Value} {L : List Tk} {t : Tk} (h : w.ownsRow B 30 5 v (L.length + 1) (tkCs L ++ tkC t)) : OwnT w B v (L ++ [t]) := by
  unfold OwnT
  rw [List.length_append, tkCs_append, tkCs_single]
  exact h
theorem one_newK (w : World) (t : Tk) : ∀ j u, (tkC t)[j]? = some u → (w.alloc (.cells (tkA t) 30)).cell? ((⟨w.heap.size, 0, none⟩ : Addr).add j) = some u := by
  intro j u hj
  have N := Blk.new w 30 (tkA t)
  rw [Go.WideShapes.add_plain, Nat.zero_add, N.cell j]
  simpa [tkA, tkC] using hj
theorem one_cellK (t : Tk) : ∀ u ∈ tkC t, u.oneCell' = true := by
  intro u hu
  simp [tkC] at hu
  rcases hu with rfl | rfl | rfl | rfl | rfl <;> rfl

end Go.Proofs.Ytemmkkcfjhmomab
