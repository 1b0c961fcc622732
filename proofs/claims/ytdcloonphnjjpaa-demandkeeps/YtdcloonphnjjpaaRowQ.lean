/-
  A demand that came in. Condition: it lies in memory.
-/
import Derived.Test.YtdcloonphnjjpaaBas
import Derived.OpenShut
namespace Go.Proofs.Ytdcloonphnjjpaa
open Go.RowKit

theorem cl3 : Try.prog.cellsOf 3 = 1 := by kernel_rfl
theorem cl23 : Try.prog.cellsOf 23 = 2 := by kernel_rfl
theorem len2 {α : Type} {l : List α} (h : l.length = 2) : ∃ a b, l = [a, b] := by
  match l, h with
  | [a, b], _ => exact ⟨a, b, rfl⟩
section
variable {H : Type} {enc : TypeId × Value → H} {W : World} {base : Nat} {sp : Nat → Bool} {held : Bool} {fuel : Nat} {x : DataW H × List MemPlace} {cs : Array Value}
theorem open_demand (h : DataW.trod enc Try.prog W base sp held fuel 23 cs.toList = some x) : ∃ a b, cs = #[.int .i64 a, .int .i64 b] := by
  obtain ⟨xs, k, hk, hxy, hcl, hxl, hf⟩ := DataW.trod_struct Try.underlying23 h
  rw [cl23] at hcl
  obtain ⟨cs⟩ := cs
  simp only at h hf hcl ⊢
  obtain ⟨v0, v1, rfl⟩ := len2 hcl
  obtain ⟨y0, y1, rfl⟩ := len2 (show xs.length = 2 from hxl)
  have g0 := hf 0 _ rfl
  have g1 := hf 1 _ rfl
  simp [cl3] at g0 g1
  obtain ⟨n0, h0, _, _⟩ := DataW.trod_int Try.underlying3 g0
  obtain ⟨n1, h1, _, _⟩ := DataW.trod_int Try.underlying3 g1
  simp at h0 h1
  subst h0 h1
  exact ⟨n0, n1, rfl⟩
end
end Go.Proofs.Ytdcloonphnjjpaa
