/-
  A line of words; numbers as digits; what may be borrowed.
-/
import Derived.Test.YtijjpblmnlednaaGreatDoorE12
import Derived.Test.YtijjpblmnlednaaGreatDoorE0
import Derived.Lib.AppendIntMem
namespace Go.Proofs.YtijjpblmnlednaaGreatDoor
open Go.RowKit Go.Lib Go.Shelf
theorem line_ok (a : Option Addr) (c : Nat) (ws : List ByteArray) (w : World) (hr : RowL w a ws) (hc : ws.length ≤ c) (hn : ws.length ≤ 140737488355328) (hne : ws ≠ []) (hlen : (lineL ws).length ≤ 70000000) :
    Calls Tryz.prog 88 #[.slice a ws.length c] w fun e w' => e = .returned (.string (lnB ws)) ∧ Below w.heap.size w w' := by
  have J := sjoin_any [32] a c ws w hr hc hn hne (by unfold lineL at hlen; omega)
  have hs : (mk (join (ws.map (·.data.toList)) [32])).size ≤ 70000000 := by rw [mk_size]; exact hlen
  have HE : Hd (lnB ws = mk (join (ws.map (·.data.toList)) [32]) ++ ⟨#[10]⟩) := ⟨list_inj (by rw [cat_list, mk_list]; unfold lnB lineL; rw [mk_list])⟩
  generalize lnB ws = R at *
  generalize mk (join (ws.map (·.data.toList)) [32]) = x at *
  generalize ws.length = m at *
  clear hr hlen hne
  have ten : (⟨#[10]⟩ : ByteArray).size = 1 := rfl
  go_enter Tryz.func88, Tryz.ntmps88
  go_wp2_with (go_at_call 45; refine J.mono ?_; rintro e w' ⟨rfl, hb⟩)
  go_ret
  exact ⟨by rw [HE.out]; rfl, hb⟩

def powName : String := match Rows.flowTotalRow.laid with
  | _ :: _ :: x :: _ => x.1
  | _ => ""
def Tab (w : World) : Prop := TabIs Tryz.prog w powName .u64 pow10Tab
theorem Tab.stays {w w' : World} (h : Tab w) (hb : Below w.heap.size w w') : Tab w' := Go.Joins.tab_stays (g := 1) (by kernel_rfl) h hb (Nat.le_refl _)
theorem digits_ok (n : Int) (h0 : -9223372036854775808 ≤ n) (h1 : n ≤ 9223372036854775807) (w : World) (hT : Tab w) :
    Calls Tryz.prog 89 #[.int .i64 n] w fun e w' => e = .returned (.string (digB n)) ∧ Below w.heap.size w w' := by
  have I := Any.strconv_Itoa Tryz.laysItoa (max n 0) (by omega) (by omega) w hT
  have e : itoa (max n 0) = decDigits (max n 0).toNat := by unfold itoa; rw [if_neg (by omega)]
  rw [e] at I
  have I' : Calls Tryz.prog 122 #[.int .i64 (max n 0)] w fun e w' => e = .returned (.string (digB n)) ∧ Below w.heap.size w w' :=
    Calls.mono I fun e w' ⟨he, k, os, hw⟩ => ⟨he, by rw [hw]; exact Lib.below_grow _ w (Nat.le_refl _) k os⟩
  clear I hT
  go_enter Tryz.func89, Tryz.ntmps89
  go_wp2_with (go_at_call 122; go_loud (refine I'.mono ?_; rintro e w' ⟨rfl, hb⟩))
  go_ret
  exact ⟨rfl, hb⟩
theorem borrow_ok (n : Int) (h0 : -9223372036854775808 ≤ n) (h1 : n ≤ 9223372036854775807) (w : World) (hT : Tab w) :
    Calls Tryz.prog 90 #[.int .i64 n] w fun e w' => e = .returned (.string (borW n)) ∧ Below w.heap.size w w' := by
  have DG := digits_ok n h0 h1 w hT
  by_cases e : n = -1
  · subst e
    clear DG hT
    go_enter Tryz.func90, Tryz.ntmps90
    go_wp2_with fail
    go_ret
    exact ⟨rfl, Below.refl _ _⟩
  · have eb : borW n = digB n := by unfold borW; rw [if_neg e]
    rw [eb]
    have en : (n == -1) = false := by simpa using e
    clear hT e
    go_enter Tryz.func90, Tryz.ntmps90
    go_wp2_with (go_at_call 89; refine DG.mono ?_; rintro e w' ⟨rfl, hb⟩)
    go_ret
    exact ⟨rfl, hb⟩
end Go.Proofs.YtijjpblmnlednaaGreatDoor
