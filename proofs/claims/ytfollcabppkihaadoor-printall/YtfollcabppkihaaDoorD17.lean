/-
  'awake'. Condition: the library's table of powers.
  'words' of the reference: a list in memory of its own. Condition: the list lies in memory, and has at most 1000 texts.
-/
import Derived.Test.YtfollcabppkihaaDoorD16
import Derived.Test.YtfollcabppkihaaDoorD6
import Derived.Test.YtfollcabppkihaaDoorD9
namespace Go.Proofs.YtfollcabppkihaaDoor
open Go.RowKit Go.Lib

def awL : Lv := ⟨mk [97], 2, 5, 0, -1, 0, 0, 0, 0, 0⟩
def awC : Cf := ⟨10, 0, 0, 0, [awL], []⟩
def awT : ByteArray := ⟨#[116, 111, 116, 97, 108, 32, 49, 48, 10, 108, 101, 118, 101, 108, 32, 97, 32, 53, 32, 48, 32, 97, 108, 108, 32, 114, 101, 106, 101, 99, 116, 10]⟩
theorem awF : Formed awC := ⟨(by decide), (by decide), .inl ⟨rfl, rfl⟩, (by decide), fun l hl => (by
  rw [List.mem_singleton.1 hl]
  exact lvOk_iff.2 ⟨by decide, .inr (.inl ⟨rfl, by decide, by decide⟩)⟩), List.pairwise_singleton _ _, (by decide), fun _ h => (by cases h), List.Pairwise.nil⟩
theorem dig10 : digB 10 = mk [49, 48] := by
  show mk (decDigits 10) = _
  rw [dec_big (by decide), dec_small (by decide)]
  rfl
theorem dig5 : digB 5 = mk [53] := by
  show mk (decDigits 5) = _
  rw [dec_small (by decide)]
  rfl
theorem dig0 : digB 0 = mk [48] := by
  show mk (decDigits 0) = _
  rw [dec_small (by decide)]
  rfl
theorem awO : outB awC = awT := by
  have e : cfWs awC = [[tTotal, digB 10], [tLevel, mk [97], digB 5, digB 0, tAll, tReject]] := rfl
  unfold outB
  rw [e, dig10, dig5, dig0]
  rfl
theorem awE : printE awC = 0 ∧ printS awC = awT := by
  have e : printE awC = 0 := by
    unfold printE
    rw [formed_iff.2 awF, awO]
    rfl
  refine ⟨e, ?_⟩
  unfold printS
  rw [e, awO]
  rfl
set_option maxRecDepth 20000 in
theorem awake_any (w : World) (hT : Tab w) : Calls Tryd.prog 5 #[] w fun e w' => e = .returned (.bool true) ∧ Below w.heap.size w w' := by
  have AL := alloc_below w (.cells (lvA awL) 37)
  have NB := Blk.new w 37 (lvA awL)
  have R1 : CfR (w.alloc (.cells (lvA awL) 37)) (.agg #[.int .i64 10, .int .i64 0, .int .i64 0, .int .i64 0, .slice (some ⟨w.heap.size, 0, none⟩) 1 1, .slice none 0 0]) awC :=
    ⟨⟨by decide, by decide⟩, ⟨fun l hl => by rw [List.mem_singleton.1 hl]; decide, fun _ h => by cases h⟩, _, 1, none, 0, [], rfl, Nat.le_refl _, Nat.le_refl _, fun _ => ⟨w.heap.size, 0, rfl, NB.lt, fun k hk j hj => by
      obtain rfl : k = 0 := by have : k < 1 := hk; omega
      rw [NB.cell]
      simp only [Nat.zero_mul, Nat.zero_add]
      match j, hj with
      | 0, _ => rfl
      | 1, _ => rfl
      | 2, _ => rfl
      | 3, _ => rfl
      | 4, _ => rfl
      | 5, _ => rfl
      | 6, _ => rfl
      | 7, _ => rfl
      | 8, _ => rfl
      | 9, _ => rfl⟩, rfl, fun h => absurd h (by decide), fun k h => absurd h (Nat.not_lt_zero _)⟩
  have P1 := print_ok _ awC _ R1 (hT.stays AL)
  rw [awE.1, awE.2] at P1
  have B1 : Hd (Below w.heap.size w (w.alloc (.cells (lvA awL) 37))) := ⟨AL⟩
  clear R1 NB AL hT
  unfold lvA awL awT at P1
  unfold lvA awL at B1
  simp only [mk] at P1 B1
  go_enter Tryd.func5, Tryd.ntmps5
  go_wp2_with fail
  go_at_call 8
  refine P1.mono ?_
  rintro e w2 ⟨rfl, b2⟩
  go_wp2_with fail
  go_ret
  exact ⟨rfl, B1.out.trans (b2.mono B1.out.size)⟩
end Go.Proofs.YtfollcabppkihaaDoor

namespace Go.Proofs.YtfollcabppkihaaDoor
open Go.RowKit Go.Lib

theorem own_ls {B : Nat} {w : World} {v : Value} {L : List ByteArray} (h : OwnT B w v L) (h1 : L.length ≤ 9223372036854775807) (h2 : ∀ x ∈ L, x.size ≤ 9223372036854775807) : LsR w v L := by
  obtain ⟨a, c, e, hr⟩ := h.shape
  refine ⟨a, c, e, hr, ?_, h1, h2⟩
  rcases h.2 with ⟨e2, h0⟩ | ⟨g, cap, cur, e2, hb, hg, hc, _⟩
  · omega
  · rw [e] at e2
    injection e2 with _ _ e3
    omega
/-- A list laid anew. -/
structure Wd (w : World) (L : List ByteArray) (e : Ending) (w' : World) : Prop where
  ex : ∃ v', e = .returned v' ∧ OwnT w.heap.size w' v' L
  ls : ∀ v', e = .returned v' → LsR w' v' L
  bel : Below w.heap.size w w'
set_option maxRecDepth 20000 in
theorem words_ok (v : Value) (L : List ByteArray) (w : World) (h : LsR w v L) (h8 : L.length ≤ 1000) : Calls Tryd.prog 13 #[v] w fun e w' => Wd w L e w' := by
  obtain ⟨a, c, rfl, hr, hc, h9, hx⟩ := h
  obtain ⟨i0, hi, hz0, hz1, hz2⟩ := info_parts info9
  have AL := alloc_below w (.cells #[] 9)
  have hr1 := hr.carry AL
  have own0 : (w.alloc (.cells #[] 9)).ownsRow w.heap.size 9 1 (.slice (some ⟨w.heap.size, 0, none⟩) 0 0) 0 [] := ⟨by simp, .inr ⟨w.heap.size, 0, #[], rfl, Nat.le_refl _, Blk.new w 9 #[], Nat.le_refl _, Nat.zero_le _, by simp, by simp⟩⟩
  have H0 : Hd (Below w.heap.size w (w.alloc (.cells #[] 9))) := ⟨AL⟩
  have HX : Hd (∀ v' w', OwnT w.heap.size w' v' L → Below w.heap.size w w' → Wd w L (.returned v') w') := ⟨fun v' w' ho hb => ⟨⟨v', rfl, ho⟩, fun u hu => by injection hu with hu; subst hu; exact own_ls ho h9 hx, hb⟩⟩
  cases a with
  | none =>
    have hL : L = [] := by
      cases L with
      | nil => rfl
      | cons x r => obtain ⟨b, off, e, _⟩ := hr (by simp); cases e
    subst hL
    have E0 : Hd (Wd w [] (.returned (.slice (some ⟨w.heap.size, 0, none⟩) 0 0)) (w.alloc (.cells #[] 9))) := ⟨HX.out _ _ own0 H0.out⟩
    clear hr hr1 AL hx h9 HX
    go_enter Tryd.func13, Tryd.ntmps13
    go_wp2_with (at_builtin; refine wpList_append_own_none rfl _ _ 41 rfl w.heap.size 9 i0 1 Tryd.underlying41 hi _ _ _ rfl own0 rfl ?_)
    go_ret
    exact E0.out
  | some ad =>
    have NW : ∀ j u, (L.map Value.string)[j]? = some u → (w.alloc (.cells #[] 9)).cell? (ad.add j) = some u := fun j u hu => by
      rw [List.getElem?_map] at hu
      by_cases hj : j < L.length
      · obtain ⟨b, off, e, hb, hcs⟩ := hr1 (by omega)
        injection e with e
        subst e
        rw [List.getElem?_eq_getElem hj] at hu
        have q := hcs j hj
        rw [gt_eq hj] at q
        rw [Go.WideShapes.add_plain, q]
        exact hu
      · rw [List.getElem?_eq_none (by omega)] at hu
        cases hu
    have O1 : ∀ u ∈ L.map Value.string, u.oneCell' = true := fun u hu => by
      obtain ⟨x, _, rfl⟩ := List.mem_map.1 hu
      rfl
    have HL : Hd (L.length ≤ 1000) := ⟨h8⟩
    have gz : w.heap.size ≤ (w.alloc (.cells #[] 9)).heap.size := AL.size
    clear hr hr1 hx h9 hc
    obtain ⟨n, hn⟩ : ∃ n, n = L.length := ⟨_, rfl⟩
    have HN : Hd (n = L.length) := ⟨hn⟩
    rw [← hn]
    clear hn h8
    go_enter Tryd.func13, Tryd.ntmps13
    go_wp2_with (at_builtin; go_loud (refine wpList_append_own _ rfl _ _ 41 rfl w.heap.size 9 i0 (.string ByteArray.empty) 1 16 Tryd.underlying41 hi hz0 hz1 hz2 rfl (by decide) _ _ _ rfl own0 ad n c (L.map Value.string) rfl (by rw [List.length_map, HN.out, Nat.mul_one]) NW O1 (by have := HL.out; have := HN.out; unfold maxLen; omega) (by have := HL.out; have := HN.out; omega) gz ?_; intro v' w' hown hgr _; have F : Hd (Wd w L (.returned v') w') := ⟨HX.out v' w' (by unfold OwnT; have e := HN.out; subst e; simpa using hown) (H0.out.grown hgr gz (fun x hx => Nat.le_of_eq (Option.some.inj hx)))⟩))
    go_ret
    exact F.out
end Go.Proofs.YtfollcabppkihaaDoor
