/-
  'What' and 'Of' of the program's faults. Condition: errorType holds what its text lays.
-/
import Derived.Test.YtlkoaldekmdcoaaGreatDoorFWalkG
namespace Go.Proofs.YtlkoaldekmdcoaaGreatDoor
open Go.RowKit Go.Extern.Stop Go.Stop Go.Extern

theorem says35 : Says 35 (fun _ y => !y.toList.isEmpty) := by
  refine ⟨enters_of Tryz.func35 (by kernel_rfl) rfl, fun x y z w hz => ?_⟩
  have b : Hd (Below w.heap.size w (w.alloc (.cells #[.int .i64 x, .string y, z] 71))) := ⟨(Below.refl _ _).alloc (Nat.le_refl _) _⟩
  go_enter Tryz.func35, Tryz.ntmps35
  go_wp2
  go_ret
  exact ⟨rfl, b.out⟩
theorem field1 (x : Int) (y : ByteArray) (z : Value) (w : World) : (Instr.field 71 (.agg #[.int .i64 x, .string y, z]) 1).run Tryz.prog w = .ok (.string y) w := by kernel_rfl
theorem what_ok (B : Base) (ls : List Lk) (w : World) (he : ET w) :
    Calls Tryz.prog 13 #[val B ls] w fun e w' => e = .returned (.string (near (fun _ y => !y.toList.isEmpty) ls).what) ∧ Below w.heap.size w w' := by
  have fd := field1
  have C := nearest_ok 35 _ says35 B ls w he
  clear he
  generalize near (fun _ y => !y.toList.isEmpty) ls = l at *
  generalize val B ls = q at *
  obtain ⟨L, S⟩ := l
  simp only at C ⊢
  go_enter Tryz.func13, Tryz.ntmps13
  go_wp2_with (go_at_call 34; refine C.mono ?_; rintro e w' ⟨⟨z, rfl⟩, hb⟩)
  go_ret
  exact ⟨rfl, hb⟩
theorem of_ok (S : ByteArray) (n : Int) (w : World) :
    Calls Tryz.prog 21 #[.string S, .iface 35 (.int .i64 n)] w fun e w' => e = .returned (val (.inl n) [⟨0, S⟩]) ∧ w' = w := by
  have hq : val (.inl n) [⟨0, S⟩] = .iface 71 (.agg #[.int .i64 0, .string S, .iface 35 (.int .i64 n)]) := rfl
  rw [hq]
  clear hq
  go_enter Tryz.func21, Tryz.ntmps21
  go_wp2
  go_ret
  exact ⟨rfl, rfl⟩

end Go.Proofs.YtlkoaldekmdcoaaGreatDoor
