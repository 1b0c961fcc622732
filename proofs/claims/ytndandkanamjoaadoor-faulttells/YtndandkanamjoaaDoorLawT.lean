/-
  What 'FaultTells' of the statements answers: true, for all arguments. Conditions: the wraps lie in memory; errorType and the library's table of powers hold what their text lays; the numbers and texts are within the form's reach.
-/
import Derived.Test.YtndandkanamjoaaDoorTell11
import Derived.Test.YtndandkanamjoaaDoorTell10
import Derived.Test.YtndandkanamjoaaDoorTell01
import Derived.Test.YtndandkanamjoaaDoorTell00
namespace Go.Proofs.YtndandkanamjoaaDoor
open Go.RowKit Go.Lib

theorem tells_all (code L0 : Int) (S0 : ByteArray) (a : Option Addr) (n cap : Nat) (f : Nat → Wp) (w : World) (he : ET w) (hT : Tab w) (hR : RowW w a n f)
    (hc : WfI code) (hl : WfI L0) (hs : S0.size ≤ 140737488351232) (hf : ∀ k, k < n → WfI (f k).line ∧ (f k).what.size ≤ 140737488351232) :
    Calls Tryd.prog 7 #[.int .i64 code, .slice a n cap, .int .i64 L0, .string S0] w fun e w' => e = .returned (.bool true) ∧ Below w.heap.size w w' := by
  by_cases hfar : 1000000 < code ∨ 1000000 < L0
  · exact tells_far code L0 S0 a n cap w he hfar
  have h1 : ¬ 1000000 < code := fun h => hfar (.inl h)
  have h2 : ¬ 1000000 < L0 := fun h => hfar (.inr h)
  have hsm : ∀ l ∈ (lks f (min n 60) ++ [(⟨L0, S0⟩ : Lk)]).reverse, Small l := by
    intro l hm
    rw [List.mem_reverse, List.mem_append] at hm
    rcases hm with hm | hm
    · exact lks_small f _ (fun j hj => hf j (by omega)) l hm
    · obtain rfl := List.mem_singleton.1 hm
      exact ⟨by have := hl.2; show L0 ≤ _; omega, hs⟩
  have s1 := near_small (fun x _ => x != 0) _ hsm
  have s2 := near_small (fun _ y => !y.toList.isEmpty) _ hsm
  have hn : 0 ≤ numberOf code ∧ numberOf code ≤ 9223372036854775807 := by
    have := hc.2
    unfold numberOf
    split <;> omega
  have bd : Bd (numberOf code) (near (fun x _ => x != 0) (lks f (min n 60) ++ [(⟨L0, S0⟩ : Lk)]).reverse).line (near (fun _ y => !y.toList.isEmpty) (lks f (min n 60) ++ [(⟨L0, S0⟩ : Lk)]).reverse).what := ⟨hn.1, hn.2, s1.1, s2.2⟩
  have hDN := digB_size (numberOf code) hn.2
  have hDL := digB_size _ s1.1
  by_cases hL : 0 < (near (fun x _ => x != 0) (lks f (min n 60) ++ [(⟨L0, S0⟩ : Lk)]).reverse).line
  · cases hW : (!(near (fun _ y => !y.toList.isEmpty) (lks f (min n 60) ++ [(⟨L0, S0⟩ : Lk)]).reverse).what.toList.isEmpty) with
    | true => exact tells_11 code L0 _ _ S0 _ _ _ _ a n cap _ f _ w he hT hR h1 h2 rfl rfl ⟨rfl⟩ ⟨rfl⟩ ⟨rfl⟩ ⟨bd⟩ ⟨rfl⟩ (tell_l11 _ _ _ hL hW) ⟨rfl, s1.1⟩ hDL ⟨rfl, hn.2⟩ hDN s2.2 hL hW
    | false => exact tells_10 code L0 _ _ S0 _ _ _ _ a n cap _ f _ w he hT hR h1 h2 rfl rfl ⟨rfl⟩ ⟨rfl⟩ ⟨rfl⟩ ⟨bd⟩ ⟨rfl⟩ (tell_l10 _ _ _ hL hW) ⟨rfl, s1.1⟩ hDL ⟨rfl, hn.2⟩ hDN hL hW
  · cases hW : (!(near (fun _ y => !y.toList.isEmpty) (lks f (min n 60) ++ [(⟨L0, S0⟩ : Lk)]).reverse).what.toList.isEmpty) with
    | true => exact tells_01 code L0 _ _ S0 _ _ _ a n cap _ f _ w he hT hR h1 h2 rfl rfl ⟨rfl⟩ ⟨rfl⟩ ⟨rfl⟩ ⟨bd⟩ ⟨rfl⟩ (tell_l01 _ _ _ hL hW) ⟨rfl, hn.2⟩ hDN s2.2 hL hW
    | false => exact tells_00 code L0 _ _ S0 _ _ _ a n cap _ f _ w he hT hR h1 h2 rfl rfl ⟨rfl⟩ ⟨rfl⟩ ⟨rfl⟩ ⟨bd⟩ ⟨rfl⟩ (tell_l00 _ _ _ hL hW) ⟨rfl, hn.2⟩ hDN hL hW

end Go.Proofs.YtndandkanamjoaaDoor
