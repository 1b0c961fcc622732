/-
  Proved: for every two words of 64 bits what was added is there again when it is taken off, and what was multiplied when it is divided, as long as nothing is above the cap, and the statement's fixed answers are met: FixBack returns true. Conditions: none.
-/
import Derived.Test.YtjpjifoanadbdaaMathF
import Derived.WalkKit
import Derived.ProofKit
import Derived.OpenShut
namespace Go.Proofs.Ytjpjifoanadbdaa.fixBack
open Go.ChangeShapes Go.WideShapes Go.ChangeAt Go.RowKit
set_option linter.unusedVariables false      -- a walk need not use every 'w<i>' (that an integer argument fits its kind)

theorem own : ownKnob Try.prog.godebug = none := by kernel_rfl

/-! ### STEP 1: THE WALK: the Go text returns true. 'Grown w w'': the world has at most new blocks (Derived/RowKit3.lean). Part the cases AHEAD of 'go_enter' where a test parts the walk; take each callee by a contract of your own. -/
set_option maxHeartbeats 2000000 in
theorem walk (a0 : Int) (a1 : Int) (w0 : (Lit.int .u64 a0).wf = true) (w1 : (Lit.int .u64 a1).wf = true) (w : World) :
    Calls Try.prog 8 #[.int .u64 a0, .int .u64 a1] w fun e w' => e = .returned (.bool true) ∧ Grown w w' := by
  have ha := word_of_wf w0; have hb := word_of_wf w1
  have h1 : Word 1 := word_of 1 (by decide) (by decide)
  have wab := addI_word ha hb; have wm := mulI_word ha hb
  have hz := cmpI_self a0 a1
  obtain ⟨p1, -⟩ := id ha; obtain ⟨p2, -⟩ := id hb
  have s2 : (addI a0 a1 < 4611686018427387904) → a0 ≤ 4611686018427387904 ∧ a1 ≤ 4611686018427387904 := by
    unfold addI capI; repeat' split
    all_goals omega
  have s1 : (addI a0 a1 < 4611686018427387904 ∧ subI (addI a0 a1) a1 = a0 ∧ subI (addI a0 a1) a0 = a1) ∨ (4611686018427387904 ≤ addI a0 a1 ∧ True ∧ True) := by
    by_cases h : addI a0 a1 < 4611686018427387904
    · exact .inl ⟨h, back_add ha hb h⟩
    · exact .inr ⟨by omega, trivial, trivial⟩
  have s3 : (a1 ≤ 0 ∧ (a1 == 0) = true ∧ True ∧ True) ∨ (0 < a1 ∧ (a1 == 0) = false ∧ (a1 ≤ 4611686018427387904 ∧ a0 ≤ 4611686018427387904) ∧ mulDivI a0 a1 a1 = a0) ∨ (0 < a1 ∧ (a1 == 0) = false ∧ 4611686018427387904 < a1 ∧ True) ∨ (0 < a1 ∧ (a1 == 0) = false ∧ (a1 ≤ 4611686018427387904 ∧ 4611686018427387904 < a0) ∧ True) := by
    by_cases h0 : a1 = 0
    · exact .inl ⟨by omega, by simp [h0], trivial, trivial⟩
    · have h0' : (a1 == 0) = false := by simp [h0]
      by_cases c1 : a1 ≤ 4611686018427387904
      · by_cases c2 : a0 ≤ 4611686018427387904
        · exact .inr (.inl ⟨by omega, h0', ⟨c1, c2⟩, back_mulDiv (by omega) c1 c2⟩)
        · exact .inr (.inr (.inr ⟨by omega, h0', ⟨c1, by omega⟩, trivial⟩))
      · exact .inr (.inr (.inl ⟨by omega, h0', by omega, trivial⟩))
  have s4 : (4611686018427387904 ≤ mulI a0 a1 ∧ True) ∨ (mulI a0 a1 < 4611686018427387904 ∧ (0 < a1 → mulDivI (mulI a0 a1) 1 a1 = a0)) := by
    by_cases h : mulI a0 a1 < 4611686018427387904
    · exact .inr ⟨h, fun hp => back_mul ha hp h⟩
    · exact .inl ⟨by omega, trivial⟩
  rcases s1 with ⟨c1, c2, c3⟩ | ⟨c1, c2, c3⟩ <;> rcases s3 with ⟨d1, d2, d3, d4⟩ | ⟨d1, d2, d3, d4⟩ | ⟨d1, d2, d3, d4⟩ | ⟨d1, d2, d3, d4⟩ <;> rcases s4 with ⟨f1, f2⟩ | ⟨f1, f2⟩
  all_goals first
    | (exfalso; omega)
    | (clear s2
       go_enter Try.func8, Try.ntmps8
       go_wp2_with (first
        | (go_at_call 9; refine (awake_any _).mono ?_; rintro e w' ⟨rfl, hg⟩)
        | (go_at_call 10; refine (add_any _ _ _ (by assumption) (by assumption)).mono ?_; rintro e w' ⟨rfl, rfl⟩)
        | (go_at_call 12; refine (sub_any _ _ _ (by assumption) (by assumption)).mono ?_; rintro e w' ⟨rfl, rfl⟩)
        | (go_at_call 18; refine (cmp_any _ _ _ _ _ (by assumption) (by assumption) (by assumption) (by assumption)).mono ?_; rintro e w' ⟨rfl, rfl⟩)
        | (go_at_call 14; refine (mul_any _ _ _ (by assumption) (by assumption)).mono ?_; rintro e w' ⟨rfl, hg'⟩; have hg := grown_trans hg hg'; clear hg')
        | (go_at_call 16; refine (mulDiv_any _ _ _ _ (by assumption) (by assumption) (by assumption)).mono ?_; rintro e w' ⟨rfl, hg'⟩; have hg := grown_trans hg hg'; clear hg'))
       all_goals (go_ret; exact ⟨rfl, hg⟩))

/-! ### THE ROW's STEP: WRITTEN OUT: LEAVE IT -/
set_option maxRecDepth 100000 in
theorem lifted (os : Os) (started : os.Started) (H : Type) (enc : TypeId × Value → H) :
    ReturnsInHanded {} Try.checked os 8 .any (Rows.fixBackSpec.pre6 enc Try.prog Try.f8 Rows.fixBackRow.domain false) (Rows.fixBackSpec.post enc Try.prog Try.f8 false true false false) := by
  refine returnsInHanded_of_change (C := Try.checked) own started (by kernel_rfl) Try.func8
    (ChangeSpec.witness6 (enc := enc) (C := Try.checked) false ⟨#[], #[.int .u64 0, .int .u64 0], []⟩ 8 (by kernel_rfl) (by kernel_rfl) (by kernel_rfl) (by kernel_rfl)) ?_
  intro W base args ds gs before hval0 hW hcnd _
  have hval : ∀ (j : Nat) t v, Try.f8.params[j]? = some t → args[j]? = some v → Value.okWide Try.prog W .any base t v := hval0
  have hW' := hW
  obtain ⟨p, q, hA0, hV, rfl, hfz, hnd⟩ := hW
  have hA : DataW.TrodAll enc Try.prog W 0 (fun _ => true) true Try.f8.params.toList args.toList ds p := hA0
  rw [Try.params8] at hA hval
  obtain ⟨v0, vs0, d0, ds0, p0, q0, hargs, rfl, rfl, h0, r0⟩ := trodAll_cons hA
  obtain ⟨v1, vs1, d1, ds1, p1, q1, rfl, rfl, rfl, h1, r1⟩ := trodAll_cons r0
  obtain ⟨rfl, rfl, rfl⟩ := trodAll_nil r1
  obtain rfl : args = #[v0, v1] := by cases args; simp_all
  obtain ⟨rfl, rfl⟩ := trodVars_none hV
  obtain ⟨a0, rfl, rfl, rfl, w0⟩ := open_int Try.underlying22 (hval 0 22 v0 rfl rfl) h0
  obtain ⟨a1, rfl, rfl, rfl, w1⟩ := open_int Try.underlying22 (hval 1 22 v1 rfl rfl) h1
  clear hA0 hval0
  simp only [List.append_nil] at hW'
  refine (walk a0 a1 w0 w1 W).mono fun e W' ⟨he, hg⟩ => ?_
  subst he
  exact ⟨_, rfl, post_of_same (pa := []) (pv := []) hW' (fun _ _ _ => (trodAll_cons_mk (shut_bool Try.underlying4 _) trodAll_mk0)) (fun sp _ => (trodAll_cons_mk (shut_int Try.underlying22 w0) (trodAll_cons_mk (shut_int Try.underlying22 w1) trodAll_mk0))) (fun _ _ => rfl) rfl
    (hg.frame _) hg.2.1 (ok_one (by kernel_rfl) rfl (okWide_bool_mk Try.underlying4 _))⟩

theorem over : Rows.fixBackRow.holds Try.pinned (OpenSpec.ofChange Rows.fixBackSpec) :=
  OpenClaim.holds_of_wide 8 Try.f8 rfl rfl rfl rfl rfl rfl rfl ⟨rfl, rfl, rfl, rfl, rfl⟩ rfl rfl rfl rfl rfl (by kernel_rfl) Try.func8 (by kernel_rfl)
    (of_decide_eq_true (by kernel_rfl)) (by unfold Func.isWrapper; first | (rw [if_pos (by decide +kernel)]; kernel_rfl) | (rw [if_neg (by decide +kernel)]; exact ⟨rfl, rfl⟩))
    (fun os started H enc _ => lifted os started H enc)

/-- ████ THE STATEMENT ████ -/
theorem proved : Rows.FixBackSaid :=
  over
#print axioms proved
end Go.Proofs.Ytjpjifoanadbdaa.fixBack

namespace Go.Proofs.Ytjpjifoanadbdaa
theorem fixBack_holds : Rows.FixBackSaid := fixBack.proved
end Go.Proofs.Ytjpjifoanadbdaa
