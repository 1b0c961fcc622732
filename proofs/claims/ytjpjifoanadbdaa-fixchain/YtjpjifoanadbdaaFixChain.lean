/-
  Proved: for every six words of 64 bits the program's order of quotients is one: turned about it says the opposite, and from a first to a second to a third it goes on, and the statement's fixed answers are met: FixChain returns true. Conditions: none.
-/
import Derived.Test.YtjpjifoanadbdaaMathF
import Derived.WalkKit
import Derived.ProofKit
import Derived.OpenShut
namespace Go.Proofs.Ytjpjifoanadbdaa.fixChain
open Go.ChangeShapes Go.WideShapes Go.ChangeAt Go.RowKit

theorem own : ownKnob Try.prog.godebug = none := by kernel_rfl
theorem cells22 : Try.prog.cellsOf 22 = 1 := by kernel_rfl
theorem cells30 : Try.prog.cellsOf 30 = 6 := by kernel_rfl

/-! ### THE PLAIN LAW -/
theorem cmpI_range (a b c d : Int) : cmpI a b c d = -1 ∨ cmpI a b c d = 0 ∨ cmpI a b c d = 1 := by
  unfold cmpI sgnI; repeat' split
  all_goals omega
theorem cmpI_turn (a b c d : Int) : cmpI c d a b = -cmpI a b c d := by
  unfold cmpI sgnI; repeat' split
  all_goals omega
theorem cmpI_le (a b c d : Int) : cmpI a b c d ≤ 0 ↔ (d = 0 ∨ (b ≠ 0 ∧ a * d ≤ c * b)) := by
  unfold cmpI sgnI
  constructor
  · repeat' split
    all_goals omega
  · repeat' split
    all_goals omega
theorem cmpI_trans {a b c d e f : Int} (hb : Word b) (hd : Word d) (hf : Word f) (h1 : cmpI a b c d ≤ 0) (h2 : cmpI c d e f ≤ 0) : cmpI a b e f ≤ 0 := by
  obtain ⟨b0, -⟩ := hb; obtain ⟨d0, -⟩ := hd; obtain ⟨f0, -⟩ := hf
  rw [cmpI_le] at h1 h2 ⊢
  rcases h2 with h2 | ⟨dn, h2⟩
  · exact .inl h2
  · rcases h1 with h1 | ⟨bn, h1⟩
    · exact absurd h1 dn
    · refine .inr ⟨bn, ?_⟩
      have dp : 0 < d := by omega
      have k1 : a * d * f ≤ c * b * f := Int.mul_le_mul_of_nonneg_right h1 f0
      have k2 : c * f * b ≤ e * d * b := Int.mul_le_mul_of_nonneg_right h2 b0
      have e1 : a * d * f = a * f * d := Int.mul_right_comm _ _ _
      have e2 : c * b * f = c * f * b := Int.mul_right_comm _ _ _
      have e3 : e * d * b = e * b * d := Int.mul_right_comm _ _ _
      exact Int.le_of_mul_le_mul_right (by omega : a * f * d ≤ e * b * d) dp

theorem chain {a b c d e f : Int} (hb : Word b) (hd : Word d) (hf : Word f) :
    (cmpI a b c d ≤ 0 → cmpI c d e f ≤ 0 → cmpI a b e f ≤ 0) ∧ (0 ≤ cmpI a b c d → 0 ≤ cmpI c d e f → 0 ≤ cmpI a b e f) ∧ (cmpI a b c d = 0 → cmpI a b e f = cmpI c d e f) := by
  have t1 := cmpI_turn a b c d; have t2 := cmpI_turn c d e f; have t3 := cmpI_turn a b e f
  have r2 := cmpI_range c d e f; have r3 := cmpI_range a b e f
  have p1 : cmpI a b c d ≤ 0 → cmpI c d e f ≤ 0 → cmpI a b e f ≤ 0 := cmpI_trans hb hd hf
  have p2 : cmpI e f c d ≤ 0 → cmpI c d a b ≤ 0 → cmpI e f a b ≤ 0 := cmpI_trans hf hd hb
  have p3 : cmpI c d a b ≤ 0 → cmpI a b e f ≤ 0 → cmpI c d e f ≤ 0 := cmpI_trans hd hb hf
  have p4 : cmpI e f a b ≤ 0 → cmpI a b c d ≤ 0 → cmpI e f c d ≤ 0 := cmpI_trans hf hb hd
  rw [t1] at p2 p3; rw [t2] at p2 p4; rw [t3] at p2 p4
  clear t1 t2 t3
  generalize cmpI a b c d = x at *; generalize cmpI c d e f = y at *; generalize cmpI a b e f = z at *
  refine ⟨p1, fun h1 h2 => ?_, fun h => ?_⟩
  · have := p2 (by omega) (by omega); omega
  · subst h
    have q1 := p1 (by omega); have q3 := p3 (by omega)
    have q2 : 0 ≤ y → 0 ≤ z := fun h => by have := p2 (by omega) (by omega); omega
    have q4 : 0 ≤ z → 0 ≤ y := fun h => by have := p4 (by omega) (by omega); omega
    omega

theorem kept {a w : World} (h : Grown a w) {b o : Nat} {v : Value} (hb : b < a.heap.size) (c : a.cell? ⟨b, o, none⟩ = some v) : w.cell? ⟨b, o, none⟩ = some v := (h.1.cell hb id).trans c

set_option maxHeartbeats 4000000 in
theorem walk (x0 x1 x2 x3 x4 x5 : Int) (h0 : Word x0) (h1 : Word x1) (h2 : Word x2) (h3 : Word x3) (h4 : Word x4) (h5 : Word x5) (w : World) :
    Calls Try.prog 6 #[.agg #[.int .u64 x0, .int .u64 x1, .int .u64 x2, .int .u64 x3, .int .u64 x4, .int .u64 x5]] w fun e w' => e = .returned (.bool true) ∧ Grown w w' := by
  have t1 := cmpI_turn x0 x1 x2 x3
  have t2 := cmpI_self x0 x1
  obtain ⟨p1, p2, p3⟩ := chain (a := x0) (c := x2) (e := x4) h1 h3 h5
  have r1 := cmpI_range x0 x1 x2 x3; have r2 := cmpI_range x2 x3 x4 x5; have r3 := cmpI_range x0 x1 x4 x5
  rcases r1 with r1 | r1 | r1 <;> rcases r2 with r2 | r2 | r2 <;> rcases r3 with r3 | r3 | r3
  all_goals rw [r1] at t1 p1 p2 p3
  all_goals rw [r2] at p1 p2 p3
  all_goals rw [r3] at p1 p2 p3
  all_goals first
    | (exfalso; omega)
    | (clear p1 p2 p3
       try simp at t1
       go_enter Try.func6, Try.ntmps6
       go_wp2_with fail
       go_at_call 9
       refine (awake_any _).mono ?_
       rintro e w1 ⟨rfl, hg⟩
       have c0 := kept hg (b := w.heap.size) (o := 0) (by simp) (by simp [go_sem]; rfl)
       have c1 := kept hg (b := w.heap.size) (o := 1) (by simp) (by simp [go_sem]; rfl)
       have c2 := kept hg (b := w.heap.size) (o := 2) (by simp) (by simp [go_sem]; rfl)
       have c3 := kept hg (b := w.heap.size) (o := 3) (by simp) (by simp [go_sem]; rfl)
       have c4 := kept hg (b := w.heap.size) (o := 4) (by simp) (by simp [go_sem]; rfl)
       have c5 := kept hg (b := w.heap.size) (o := 5) (by simp) (by simp [go_sem]; rfl)
       go_wp2_with (go_at_call 18; refine (cmp_any _ _ _ _ _ (by assumption) (by assumption) (by assumption) (by assumption)).mono ?_; rintro e w2 ⟨rfl, hw⟩; obtain rfl := hw.symm)
       go_ret
       exact ⟨rfl, grown_trans ((Grown.refl w).alloc _ _) hg⟩)

theorem list6 {α : Type} (l : List α) (h : (⟨l⟩ : Array α).size = 6) : ∃ a b c d e f, l = [a, b, c, d, e, f] := by
  match l, h with
  | [a, b, c, d, e, f], _ => exact ⟨a, b, c, d, e, f, rfl⟩

theorem trod6 {H : Type} {enc : TypeId × Value → H} {W : World} {base : Nat} {spare : Nat → Bool} {held : Bool} {fuel : Nat} {c0 c1 c2 c3 c4 c5 : Value} {x : DataW H × List MemPlace}
    (h : DataW.trod enc Try.prog W base spare held fuel 30 [c0, c1, c2, c3, c4, c5] = some x) :
    ∃ x0 x1 x2 x3 x4 x5 : Int, x = (.agg [.lit (.int .u64 x0), .lit (.int .u64 x1), .lit (.int .u64 x2), .lit (.int .u64 x3), .lit (.int .u64 x4), .lit (.int .u64 x5)], []) ∧
      [c0, c1, c2, c3, c4, c5] = [.int .u64 x0, .int .u64 x1, .int .u64 x2, .int .u64 x3, .int .u64 x4, .int .u64 x5] ∧
      (Lit.int .u64 x0).wf = true ∧ (Lit.int .u64 x1).wf = true ∧ (Lit.int .u64 x2).wf = true ∧ (Lit.int .u64 x3).wf = true ∧ (Lit.int .u64 x4).wf = true ∧ (Lit.int .u64 x5).wf = true := by
  obtain ⟨xs, m, rfl, hx, -, hl, hi⟩ := DataW.trod_array Try.underlying30 h
  obtain ⟨y0, y1, y2, y3, y4, y5, rfl⟩ := list6 xs (by simpa using hl)
  have k0 := hi 0 (by omega); have k1 := hi 1 (by omega); have k2 := hi 2 (by omega); have k3 := hi 3 (by omega); have k4 := hi 4 (by omega); have k5 := hi 5 (by omega)
  simp [cells22] at k0 k1 k2 k3 k4 k5
  obtain ⟨x0, e0, rfl, w0⟩ := DataW.trod_int Try.underlying22 k0
  obtain ⟨x1, e1, rfl, w1⟩ := DataW.trod_int Try.underlying22 k1
  obtain ⟨x2, e2, rfl, w2⟩ := DataW.trod_int Try.underlying22 k2
  obtain ⟨x3, e3, rfl, w3⟩ := DataW.trod_int Try.underlying22 k3
  obtain ⟨x4, e4, rfl, w4⟩ := DataW.trod_int Try.underlying22 k4
  obtain ⟨x5, e5, rfl, w5⟩ := DataW.trod_int Try.underlying22 k5
  simp at e0 e1 e2 e3 e4 e5
  subst e0 e1 e2 e3 e4 e5
  exact ⟨x0, x1, x2, x3, x4, x5, by simpa using hx, rfl, w0, w1, w2, w3, w4, w5⟩

set_option maxHeartbeats 400000 in
set_option maxRecDepth 100000 in
theorem lifted (os : Os) (started : os.Started) (H : Type) (enc : TypeId × Value → H) :
    ReturnsInHanded {} Try.checked os 6 .any (Rows.fixChainSpec.pre6 enc Try.prog Try.f6 Rows.fixChainRow.domain false) (Rows.fixChainSpec.post enc Try.prog Try.f6 false true false false) := by
  refine returnsInHanded_of_change (C := Try.checked) own started (by kernel_rfl) Try.func6
    (ChangeSpec.witness6 (enc := enc) (C := Try.checked) false ⟨#[], #[.agg #[.int .u64 0, .int .u64 0, .int .u64 0, .int .u64 0, .int .u64 0, .int .u64 0]], []⟩ 8 (by kernel_rfl) (by kernel_rfl) (by kernel_rfl) (by kernel_rfl)) ?_
  intro W base args ds gs before hval0 hW hcnd _
  have hval : ∀ (j : Nat) t v, Try.f6.params[j]? = some t → args[j]? = some v → Value.okWide Try.prog W .any base t v := hval0
  have hW' := hW
  obtain ⟨p, q, hA0, hV, rfl, hfz, hnd⟩ := hW
  have hA : DataW.TrodAll enc Try.prog W 0 (fun _ => true) true Try.f6.params.toList args.toList ds p := hA0
  rw [Try.params6] at hA hval
  obtain ⟨v0, d0, rfl, rfl, h0⟩ := trodAll_one hA
  obtain ⟨rfl, rfl⟩ := trodVars_none hV
  obtain ⟨cs, rfl, hsz, -⟩ : ∃ cs, v0 = .agg cs ∧ cs.size = Try.prog.cellsOf 30 ∧ Row.okWide Try.prog W .any base 30 cs := by
    have := hval 0 30 v0 rfl rfl
    simpa [Value.okWide, Try.underlying30] using this
  rw [cells30] at hsz
  obtain ⟨l⟩ := cs
  obtain ⟨c0, c1, c2, c3, c4, c5, rfl⟩ := list6 l hsz
  obtain ⟨fuel, hf⟩ := h0
  obtain ⟨x0, x1, x2, x3, x4, x5, hx, hc, w0, w1, w2, w3, w4, w5⟩ := trod6 (by simpa [Value.cells] using hf)
  simp only [List.cons.injEq, and_true] at hc
  obtain ⟨rfl, rfl, rfl, rfl, rfl, rfl⟩ := hc
  simp only [Prod.mk.injEq] at hx
  obtain ⟨rfl, rfl⟩ := hx
  clear hA0 hval0 hf
  simp only [List.append_nil] at hW'
  refine (walk x0 x1 x2 x3 x4 x5 (word_of_wf w0) (word_of_wf w1) (word_of_wf w2) (word_of_wf w3) (word_of_wf w4) (word_of_wf w5) W).mono fun e W' ⟨he, hg⟩ => ?_
  subst he
  have rdA : ∀ sp : Nat → Bool, DataW.Trod enc Try.prog W' 0 sp true 30 (.agg #[.int .u64 x0, .int .u64 x1, .int .u64 x2, .int .u64 x3, .int .u64 x4, .int .u64 x5]) (DataW.agg [.lit (.int .u64 x0), .lit (.int .u64 x1), .lit (.int .u64 x2), .lit (.int .u64 x3), .lit (.int .u64 x4), .lit (.int .u64 x5)]) [] :=
    fun sp => ⟨2, by simp [DataW.trod, Value.cells, Try.underlying30, Try.underlying22, cells30, cells22, w0, w1, w2, w3, w4, w5, show List.range 6 = [0, 1, 2, 3, 4, 5] from rfl]⟩
  exact ⟨_, rfl, post_of_same (pa := []) (pv := []) hW' (fun _ _ _ => (trodAll_cons_mk (shut_bool Try.underlying4 _) trodAll_mk0)) (fun sp _ => (trodAll_cons_mk (rdA sp) trodAll_mk0)) (fun _ _ => rfl) rfl
    (hg.frame _) hg.2.1 (ok_one (by kernel_rfl) rfl (okWide_bool_mk Try.underlying4 _))⟩

theorem over : Rows.fixChainRow.holds Try.pinned (OpenSpec.ofChange Rows.fixChainSpec) :=
  OpenClaim.holds_of_wide 6 Try.f6 rfl rfl rfl rfl rfl rfl rfl ⟨rfl, rfl, rfl, rfl, rfl⟩ rfl rfl rfl rfl rfl (by kernel_rfl) Try.func6 (by kernel_rfl)
    (of_decide_eq_true (by kernel_rfl)) (by unfold Func.isWrapper; first | (rw [if_pos (by decide +kernel)]; kernel_rfl) | (rw [if_neg (by decide +kernel)]; exact ⟨rfl, rfl⟩))
    (fun os started H enc _ => lifted os started H enc)

theorem proved : Rows.FixChainSaid :=
  over
#print axioms proved
end Go.Proofs.Ytjpjifoanadbdaa.fixChain

namespace Go.Proofs.Ytjpjifoanadbdaa
theorem fixChain_holds : Rows.FixChainSaid := fixChain.proved
end Go.Proofs.Ytjpjifoanadbdaa
