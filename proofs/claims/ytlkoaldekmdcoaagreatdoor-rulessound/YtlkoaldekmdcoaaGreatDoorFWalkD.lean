/-
  'answers' of the program: what the function that it is handed answers, at a function that does not panic. Condition: the function answers, and leaves the one new variable alone.
-/
import Derived.Test.YtlkoaldekmdcoaaGreatDoorFWalkB
import Derived.Defers
import Derived.Recover
import Derived.Laws.Pointers
import Derived.Shelf.Abstract
namespace Go.Proofs.YtlkoaldekmdcoaaGreatDoor
open Go.RowKit Go.Extern.Stop Go.Stop Go.Extern

theorem catch_idle (p : Addr) (w : World) :
    CallsD Tryz.prog 55 #[.pointer (some p)] .returning w fun e u' w' => e = .returned (.tuple #[]) ∧ u' = .returning ∧ w' = w := by
  refine callsD_of_wpS Tryz.func55 rfl fun c₀ cs hu => ?_
  apply wpS_seq
  apply wpS_region
  simp [wpOpsS, go_sem, recoverD, hu, Tryz.ntmps55, Exit.thenS]
  refine wpS_cond (t := false) (by simp [Act.eval, Array.replicate]) ?_
  simp only [Bool.false_eq_true, if_false]
  refine wpS_of_wp (wp_skip ?_)
  cases c₀
  simp_all [bodyPostS, results, Tryz.results55]

theorem answers_ok (g : Nat) (eg : Enters Tryz.prog g) (p q : Value) (b : Bool) (R : World → Prop) (w : World)
    (H : Calls Tryz.prog g #[p, q] (w.alloc (.cells #[.bool false] 4)) fun e w' => e = .returned (.bool b) ∧ R w')
    (hR : ∀ w1, R w1 → w1.cell? ⟨w.heap.size, 0, none⟩ = some (.bool false) ∧ w1.frozen? ⟨w.heap.size, 0, none⟩ = false) :
    Calls Tryz.prog 31 #[.func (.func g) #[] #[p, q]] w fun e w' => e = .returned (.bool b) ∧ ∃ w1, R w1 ∧ w' = w1.setCell ⟨w.heap.size, 0, none⟩ (.bool b) := by
  have hmf : ∀ (fn : Fn) (first cap : Array Value) (w : World), (Instr.makeFunc fn first cap).run Tryz.prog w = .ok (.func fn first cap) w := fun _ _ _ _ => rfl
  have eg' : ∀ args w, (callFunc g args).run Tryz.prog w = .ok (.enter g args) w := eg
  clear eg
  go_enter_defers Tryz.func31, Tryz.ntmps31
  go_wp2_with (go_at_fn g; refine H.mono ?_; rintro e w1 ⟨rfl, hr⟩; obtain ⟨hc, hz⟩ := hR w1 hr)
  refine leaves_cons (f := 55) (args := #[.pointer (some ⟨w.heap.size, 0, none⟩)]) (by simp) (by simp [go_sem]) ?_
  refine (catch_idle ⟨w.heap.size, 0, none⟩ _).mono ?_
  rintro e u' w'' ⟨rfl, rfl, rfl⟩
  simp [Leaves, settle, results, Tryz.results31, go_sem]
  exact ⟨.bool b, by rw [World.cell?_setCell_same _ _ _ hc], rfl, w1, hr, rfl⟩

end Go.Proofs.YtlkoaldekmdcoaaGreatDoor
