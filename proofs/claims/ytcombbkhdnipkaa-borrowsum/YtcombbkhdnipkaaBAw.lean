/-
  What 'Bounds' answers, whichever it is. Conditions: the levels lie in memory, and are no more than memory holds.
-/
import Derived.Test.YtcombbkhdnipkaaBWq
namespace Go.Proofs.Ytcombbkhdnipkaa.Bo
open Go.RowKit

/-- What 'Bounds' answers, whichever it is. -/
theorem bounds_ok (total : Int) (a : Option Addr) (n cap : Nat) (l : Nat → Lv) (w : World) (hr : LvR w a n l) (hn : n ≤ 17592186044416) :
    Calls Try.prog 11 #[.int .i64 total, .slice a n cap] w fun e w' => BRes w total n l e w' := by
  by_cases z : refI total n (shr l) = 0
  · exact bounds_yes total a n cap l w hr (Fits.of z)
  · exact bounds_no total a n cap l w hr hn (by simpa using z)
/-- Where nothing is refused. -/
theorem BRes.yes {w w' : World} {total : Int} {n : Nat} {l : Nat → Lv} {e : Ending} (h : BRes w total n l e w') (hf : Fits total n (shr l)) (hi : ∀ k, k < n → InR (l k)) :
    ∃ a c, e = .returned (.tuple #[.slice a n c, .int .i64 0]) ∧ BdR w' a n (bds total n l) := by
  rcases h.ex with ⟨-, -, h⟩ | ⟨-, ⟨k, hk, hn⟩, -⟩ | ⟨hn, -⟩
  · exact h
  · exact absurd (hi k hk) hn
  · rw [hf.none] at hn; simp at hn

end Go.Proofs.Ytcombbkhdnipkaa.Bo
