/-
  What 'Digits' of the program answers. Condition of 'Digits': the library's table of powers lies in memory.
-/
import Derived.Test.YtooaojegdhamjaaDoorMathD
import Derived.Test.YtooaojegdhamjaaDoorShelf
import Derived.Lib.SmallJoins
import Derived.Lib.AppendIntMem
namespace Go.Proofs.YtooaojegdhamjaaDoor
open Go.RowKit Go.Lib Go.Shelf

/-- The name of the table of powers: the third that the row lists. -/
def powName : String := match Rows.eventOneRow.laid with
  | [_, _, x, _, _] => x.1
  | _ => Rows.eventOneRow.func
def Tab (w : World) : Prop := TabIs Tryd.prog w powName .u64 pow10Tab
theorem Tab.stays {w w' : World} (h : Tab w) (hb : Below w.heap.size w w') : Tab w' := Go.Joins.tab_stays (g := 3) (by kernel_rfl) h hb (Nat.le_refl _)

def digB (n : Int) : ByteArray := mk (decDigits (max n 0).toNat)

theorem digits_ok (n : Int) (h0 : -9223372036854775808 ≤ n) (h1 : n ≤ 9223372036854775807) (w : World) (hT : Tab w) :
    Calls Tryd.prog 22 #[.int .i64 n] w fun e w' => e = .returned (.string (digB n)) ∧ Below w.heap.size w w' := by
  have I := Any.strconv_Itoa Tryd.laysItoa (max n 0) (by omega) (by omega) w hT
  have e : itoa (max n 0) = decDigits (max n 0).toNat := by unfold itoa; rw [if_neg (by omega)]
  rw [e] at I
  have I' : Calls Tryd.prog 40 #[.int .i64 (max n 0)] w fun e w' => e = .returned (.string (digB n)) ∧ Below w.heap.size w w' :=
    Calls.mono I fun e w' ⟨he, k, os, hw⟩ => ⟨he, by rw [hw]; exact Lib.below_grow _ w (Nat.le_refl _) k os⟩
  clear I hT
  go_enter Tryd.func22, Tryd.ntmps22
  go_wp2_with (go_at_call 40; go_loud (refine I'.mono ?_; rintro e w' ⟨rfl, hb⟩))
  go_ret
  exact ⟨rfl, hb⟩

end Go.Proofs.YtooaojegdhamjaaDoor
