/-
  The fixed answer ('awake') of the statements of layer 10. No condition.
-/
import Derived.Test.YtaodckojinbdfaaDoorParseB
import Derived.Test.YtaodckojinbdfaaDoorMathK
namespace Go.Proofs.YtaodckojinbdfaaDoor
open Go.RowKit

theorem awake_any (w : World) : Calls Tryd.prog 7 #[] w fun e w' => e = .returned (.bool true) ∧ Below w.heap.size w w' := by
  have PA := fun w => parse_ok awA w (by decide)
  have PB := fun w => parse_ok awB w (by decide)
  rw [awA_e, awA_c] at PA
  have eA : errV 0 (parL awA) = .nilIface := rfl
  rw [eA] at PA
  have eB : errV (parE awB) (parL awB) = .iface 61 (.agg #[.int .i64 (parL awB : Int), .string ⟨#[]⟩, .iface 37 (.int .i64 8)]) := by rw [awB_e]; rfl
  rw [eB] at PB
  generalize (parL awB : Int) = lb at PB
  generalize parC awB = CB at PB
  unfold awA at PA
  unfold awB at PB
  clear eA eB
  go_enter Tryd.func7, Tryd.ntmps7
  go_wp2_with fail
  go_at_call 9
  refine (PA _).mono ?_
  rintro e w1 ⟨v, rfl, ⟨vL, vS, V, rfl, hL, hS⟩, b1⟩
  clear PA
  obtain ⟨w2, hw2⟩ : ∃ w2, w2 = w1.alloc (.cells #[.int .i64 awCf.total, .int .i64 awCf.period, .int .i64 awCf.perSeat, .int .i64 awCf.most, vL, vS] 30) := ⟨_, rfl⟩
  have bb2 : Below w1.heap.size w1 w2 := by rw [hw2]; exact (Below.refl _ _).alloc (Nat.le_refl _) _
  have C2 : Blk w2 w1.heap.size 30 #[.int .i64 awCf.total, .int .i64 awCf.period, .int .i64 awCf.perSeat, .int .i64 awCf.most, vL, vS] := by rw [hw2]; exact Blk.new w1 30 _
  obtain ⟨aL, cL, rfl⟩ := own_form hL
  obtain ⟨aS, cS, rfl⟩ := own_form hS.own
  have B2 : Below w.heap.size w w2 := b1.trans (bb2.mono b1.size)
  have k2 : Kept (fun _ => False) w1 w2 := Kept.of_below bb2 _
  have f2 : ∀ t, Off t (fun _ => False) w1 := fun _ _ _ _ _ => id
  have L2 := hL.off k2 (f2 _)
  have S2 := hS.off k2 (f2 _) (f2 _) (f2 _)
  clear hL hS b1 bb2 k2 f2
  go_wp2_with fail
  rw [← hw2]
  clear hw2
  generalize w1.heap.size = cb at *
  go_at_call 9
  refine (PB _).mono ?_
  rintro e w3 ⟨v, rfl, ⟨vL', vS', V', rfl, hL', hS'⟩, b3⟩
  clear PB
  obtain ⟨aL', cL', rfl⟩ := own_form hL'
  obtain ⟨aS', cS', rfl⟩ := own_form hS'.own
  clear hL' hS'
  obtain ⟨w4, hw4⟩ : ∃ w4, w4 = w3.alloc (.cells #[.int .i64 CB.total, .int .i64 CB.period, .int .i64 CB.perSeat, .int .i64 CB.most, .slice aL' CB.levels.length cL', .slice aS' CB.schemas.length cS'] 30) := ⟨_, rfl⟩
  have bb4 : Below w2.heap.size w2 w4 := b3.trans (by rw [hw4]; exact (Below.refl _ _).alloc b3.size _)
  have k4 : Kept (fun _ => False) w2 w4 := Kept.of_below bb4 _
  have f4 : ∀ t, Off t (fun _ => False) w2 := fun _ _ _ _ _ => id
  have C4 := C2.off k4 (f4 _)
  have L4 := L2.off k4 (f4 _)
  have S4 := S2.off k4 (f4 _) (f4 _) (f4 _)
  have B4 : Hd (Below w.heap.size w w4) := ⟨B2.trans (bb4.mono B2.size)⟩
  clear b3 bb4 k4 f4 C2 L2 S2 B2
  have d0 : w4.cell? ⟨cb, 0, none⟩ = some (.int .i64 10) := C4.cellv 0 rfl
  have d4 : w4.cell? ⟨cb, 4, none⟩ = some (.slice aL 1 cL) := C4.cellv 4 rfl
  have d5 : w4.cell? ⟨cb, 5, none⟩ = some (.slice aS 1 cS) := C4.cellv 5 rfl
  obtain ⟨-, hbad⟩ | ⟨g, cap, e1, hg, hc, hcs⟩ := rowLv L4
  · cases hbad
  obtain ⟨rfl, rfl⟩ : aL = some ⟨g, 0, none⟩ ∧ cL = cap := by injection e1 with e1 _ e3; exact ⟨e1, e3⟩
  have l4 : w4.cell? ⟨g, 4, none⟩ = some (.int .i64 (-1)) := hcs 0 (by decide) 4 (by decide)
  obtain ⟨-, hbad⟩ | ⟨g', cap', e2, hg', hc', hcs'⟩ := rowSc S4
  · cases hbad
  obtain ⟨rfl, rfl⟩ : aS = some ⟨g', 0, none⟩ ∧ cS = cap' := by injection e2 with e1 _ e3; exact ⟨e1, e3⟩
  have hV0 : 0 < V.length := by rw [S4.len]; decide
  have s4 : w4.cell? ⟨g', 4, none⟩ = some V[0] := hcs' 0 (by decide) hV0 4 (by decide)
  obtain ⟨rcs, hro, -⟩ := S4.rls 0 (by decide) hV0
  obtain ⟨ar, cr, er⟩ := own_form hro
  rw [er] at s4
  have s4' : w4.cell? ⟨g', 4, none⟩ = some (.slice ar 1 cr) := s4
  have hc1 : 1 ≤ cL := hc
  clear s4 er hro hcs hcs' e1 e2 C4 L4 S4 hV0 hc hc'
  subst hw4
  go_wp2_with fail
  go_ret
  exact ⟨rfl, B4.out⟩

end Go.Proofs.YtaodckojinbdfaaDoor
