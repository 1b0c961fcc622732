/-
  'words' of the reference: a list in memory of its own. Condition: the list lies in memory, and has at most 1000 texts.
-/
import Derived.Test.YtendblngcbknpaaPrE
namespace Go.Proofs.Ytendblngcbknpaa
open Go.RowKit

theorem own_ls {B : Nat} {w : World} {v : Value} {L : List ByteArray} (h : OwnT B w v L) (h1 : L.length ≤ 9223372036854775807) (h2 : ∀ x ∈ L, x.size ≤ 9223372036854775807) : LsR w v L := by
  obtain ⟨a, c, e, hr⟩ := h.shape
  refine ⟨a, c, e, hr, ?_, h1, h2⟩
  rcases h.2 with ⟨e2, h0⟩ | ⟨g, cap, cur, e2, hb, hg, hc, _⟩
  · omega
  · rw [e] at e2
    injection e2 with _ _ e3
    omega
/-- A list laid anew. -/
structure Wd (w : World) (L : List ByteArray) (e : Ending) (w' : World) : Prop where
  ex : ∃ v', e = .returned v' ∧ OwnT w.heap.size w' v' L
  ls : ∀ v', e = .returned v' → LsR w' v' L
  bel : Below w.heap.size w w'
set_option maxRecDepth 20000 in
theorem words_ok (v : Value) (L : List ByteArray) (w : World) (h : LsR w v L) (h8 : L.length ≤ 1000) : Calls Try.prog 21 #[v] w fun e w' => Wd w L e w' := by
  obtain ⟨a, c, rfl, hr, hc, h9, hx⟩ := h
  obtain ⟨i0, hi, hz0, hz1, hz2⟩ := info_parts info9
  have AL := alloc_below w (.cells #[] 9)
  have hr1 := hr.carry AL
  have own0 : (w.alloc (.cells #[] 9)).ownsRow w.heap.size 9 1 (.slice (some ⟨w.heap.size, 0, none⟩) 0 0) 0 [] := ⟨by simp, .inr ⟨w.heap.size, 0, #[], rfl, Nat.le_refl _, Blk.new w 9 #[], Nat.le_refl _, Nat.zero_le _, by simp, by simp⟩⟩
  have H0 : Hd (Below w.heap.size w (w.alloc (.cells #[] 9))) := ⟨AL⟩
  have HX : Hd (∀ v' w', OwnT w.heap.size w' v' L → Below w.heap.size w w' → Wd w L (.returned v') w') := ⟨fun v' w' ho hb => ⟨⟨v', rfl, ho⟩, fun u hu => by injection hu with hu; subst hu; exact own_ls ho h9 hx, hb⟩⟩
  cases a with
  | none =>
    have hL : L = [] := by
      cases L with
      | nil => rfl
      | cons x r => obtain ⟨b, off, e, _⟩ := hr (by simp); cases e
    subst hL
    have E0 : Hd (Wd w [] (.returned (.slice (some ⟨w.heap.size, 0, none⟩) 0 0)) (w.alloc (.cells #[] 9))) := ⟨HX.out _ _ own0 H0.out⟩
    clear hr hr1 AL hx h9 HX
    go_enter Try.func21, Try.ntmps21
    go_wp2_with (at_builtin; refine wpList_append_own_none rfl _ _ 25 rfl w.heap.size 9 i0 1 Try.underlying25 hi _ _ _ rfl own0 rfl ?_)
    go_ret
    exact E0.out
  | some ad =>
    have NW : ∀ j u, (L.map Value.string)[j]? = some u → (w.alloc (.cells #[] 9)).cell? (ad.add j) = some u := fun j u hu => by
      rw [List.getElem?_map] at hu
      by_cases hj : j < L.length
      · obtain ⟨b, off, e, hb, hcs⟩ := hr1 (by omega)
        injection e with e
        subst e
        rw [List.getElem?_eq_getElem hj] at hu
        have q := hcs j hj
        rw [gt_eq hj] at q
        rw [Go.WideShapes.add_plain, q]
        exact hu
      · rw [List.getElem?_eq_none (by omega)] at hu
        cases hu
    have O1 : ∀ u ∈ L.map Value.string, u.oneCell' = true := fun u hu => by
      obtain ⟨x, _, rfl⟩ := List.mem_map.1 hu
      rfl
    have HL : Hd (L.length ≤ 1000) := ⟨h8⟩
    have gz : w.heap.size ≤ (w.alloc (.cells #[] 9)).heap.size := AL.size
    clear hr hr1 hx h9 hc
    obtain ⟨n, hn⟩ : ∃ n, n = L.length := ⟨_, rfl⟩
    have HN : Hd (n = L.length) := ⟨hn⟩
    rw [← hn]
    clear hn h8
    go_enter Try.func21, Try.ntmps21
    go_wp2_with (at_builtin; go_loud (refine wpList_append_own _ rfl _ _ 25 rfl w.heap.size 9 i0 (.string ByteArray.empty) 1 16 Try.underlying25 hi hz0 hz1 hz2 rfl (by decide) _ _ _ rfl own0 ad n c (L.map Value.string) rfl (by rw [List.length_map, HN.out, Nat.mul_one]) NW O1 (by have := HL.out; have := HN.out; unfold maxLen; omega) (by have := HL.out; have := HN.out; omega) gz ?_; intro v' w' hown hgr _; have F : Hd (Wd w L (.returned v') w') := ⟨HX.out v' w' (by unfold OwnT; have e := HN.out; subst e; simpa using hown) (H0.out.grown hgr gz (fun x hx => Nat.le_of_eq (Option.some.inj hx)))⟩))
    go_ret
    exact F.out
end Go.Proofs.Ytendblngcbknpaa
