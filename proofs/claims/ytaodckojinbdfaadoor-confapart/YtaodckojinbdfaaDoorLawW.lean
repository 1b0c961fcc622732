/-
  'ConfApart' answers true. Condition: the text's size is a machine's.
-/
import Derived.Test.YtaodckojinbdfaaDoorLawZ
import Derived.Test.YtaodckojinbdfaaDoorParseB
import Derived.Test.YtaodckojinbdfaaDoorAwake
namespace Go.Proofs.YtaodckojinbdfaaDoor
open Go.RowKit

theorem conf_apart (s : ByteArray) (w : World) (hs : s.size ≤ 9223372036854775807) : Calls Tryd.prog 6 #[.string s] w fun e w' => e = .returned (.bool true) ∧ Below w.heap.size w w' := by
  have P : ∀ W, Below w.heap.size w W → Calls Tryd.prog 9 #[.string s] W fun e w' => Cp.PR W s (errV (parE s) (parL s)) e w' := fun W _ => (parse_ok s W hs).mono fun e w' h => by
    obtain ⟨v, e1, h2, b⟩ := h
    exact ⟨⟨v, e1, h2⟩, b⟩
  by_cases h0 : parE s = 0
  · have e : errV (parE s) (parL s) = .nilIface := by unfold errV; rw [if_pos h0]
    rw [e] at P
    exact Cp.apart_nil s w hs (awake_any w) P
  · have e : errV (parE s) (parL s) = .iface 61 (.agg #[.int .i64 (parL s : Int), .string ⟨#[]⟩, .iface 37 (.int .i64 (parE s))]) := by unfold errV; rw [if_neg h0]; rfl
    rw [e] at P
    exact Cp.apart_err s 61 _ w hs (awake_any w) P
end Go.Proofs.YtaodckojinbdfaaDoor
