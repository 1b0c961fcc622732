/-
  What was read may be printed; 'awake'. Condition: the library's table of powers.
-/
import Derived.Test.YtfollcabppkihaaGreatDoorPrO
import Derived.Test.YtfollcabppkihaaGreatDoorSameB
import Derived.Test.YtfollcabppkihaaGreatDoorParseB
namespace Go.Proofs.YtfollcabppkihaaGreatDoor
open Go.RowKit Go.Lib

theorem join_words {L : List ByteArray} (h : joinB L ≠ mk []) : ∀ x ∈ L, x.size ≤ 64 := by
  unfold joinB at h
  by_cases h0 : L = []
  · rw [h0]; intro x hx; cases hx
  rw [if_neg h0] at h
  by_cases h1 : L = [mk [42]]
  · rw [h1]; intro x hx; rw [List.mem_singleton.1 hx]; decide
  rw [if_neg h1] at h
  cases hg : good L with
  | false => rw [hg] at h; exact absurd rfl h
  | true => exact fun x hx => word_short (good_words (good_iff.1 hg) x hx)
theorem Lst.read {B : Nat} {w : World} {v : Value} {L : List ByteArray} (h : Lst B w v L) (hj : joinB L ≠ mk []) : LsR w v L := by
  obtain ⟨a, c, e, hr, hc, hl⟩ := h
  exact ⟨a, c, e, hr.row, hc, by omega, fun x hx => by have := join_words hj x hx; omega⟩
theorem RlOwn.read {B : Nat} {w : World} {v : Value} {rs : List Rl} (h : RlOwn B w v rs) (ho : ∀ r ∈ rs, rlOk r = true) : RlR w v rs := by
  obtain ⟨a, c, e, hl, hr⟩ := rl_row h
  refine ⟨a, c, e, by unfold maxLen at hl; omega, fun hn => ?_⟩
  obtain ⟨g, rfl, hg, hc⟩ := hr hn
  refine ⟨g, 0, rfl, hg, fun k hk => ?_⟩
  obtain ⟨v0, v1, v2, v3, v4, ⟨h0, h1, h2, h3, h4⟩, l0, l1, l2, l3, l4⟩ := hc k hk
  obtain ⟨j0, j1, j2, j3, j4⟩ := rlOk_iff.1 (ho rs[k] (List.getElem_mem hk))
  simp only [Nat.zero_add]
  exact ⟨v0, v1, v2, v3, v4, ⟨h0, h1, h2, h3, h4⟩, l0.read j0, l1.read j1, l2.read j2, l3.read j3, l4.read j4⟩
theorem CfV.read {B : Nat} {w : World} {v : Value} {C : Cf} (h : CfV B w v C) (hF : Formed C) : CfR w v C := by
  obtain ⟨vL, vS, V, rfl, hL, hS⟩ := h
  obtain ⟨aL, cL, eL⟩ := own_form hL
  obtain ⟨aS, cS, eS⟩ := own_form hS.own
  subst eL eS
  have n1 := hF.nl
  have n2 := hF.ns
  have capL : C.levels.length ≤ cL := by
    rcases hL.2 with ⟨e, e2⟩ | ⟨g, cap, cur, e, _, _, hc, _⟩
    · omega
    · injection e with _ _ e3; omega
  have capS : C.schemas.length ≤ cS := by
    rcases hS.own.2 with ⟨e, e2⟩ | ⟨g, cap, cur, e, _, _, hc, _⟩
    · omega
    · injection e with _ _ e3; omega
  refine ⟨⟨by omega, by omega⟩, ⟨fun l hl => by have := name_short (lvOk_iff.1 (hF.lv l hl)).1; omega, fun s hs => by
    have h1 := scOk_iff.1 (hF.sc s hs)
    have := name_short h1.1
    have := name_short h1.2.1
    omega⟩, aL, cL, aS, cS, V, rfl, capL, capS, fun hn => ?_, hS.len, fun hn => ?_, fun k h1 h2 => ?_⟩
  · obtain ⟨g, rfl, hg, hc⟩ := lv_rd hL hn
    exact ⟨g, 0, rfl, hg, fun k hk j hj => by rw [Nat.zero_add]; exact hc k hk j hj⟩
  · obtain ⟨g, rfl, hg, hc⟩ := sc_rd hS hn
    exact ⟨g, 0, rfl, hg, fun k hk hk' j hj => by rw [Nat.zero_add]; exact hc k hk hk' j hj⟩
  · exact (hS.rls k h1 h2).read (scOk_iff.1 (hF.sc _ (List.getElem_mem h1))).2.2.2.2.2

/-! ### awake -/
def awL : Lv := ⟨mk [97], 2, 5, 0, -1, 0, 0, 0, 0, 0⟩
def awC : Cf := ⟨10, 0, 0, 0, [awL], []⟩
def awT : ByteArray := ⟨#[116, 111, 116, 97, 108, 32, 49, 48, 10, 108, 101, 118, 101, 108, 32, 97, 32, 53, 32, 48, 32, 97, 108, 108, 32, 114, 101, 106, 101, 99, 116, 10]⟩
theorem awF : Formed awC := ⟨(by decide), (by decide), .inl ⟨rfl, rfl⟩, (by decide), fun l hl => (by
  rw [List.mem_singleton.1 hl]
  exact lvOk_iff.2 ⟨by decide, .inr (.inl ⟨rfl, by decide, by decide⟩)⟩), List.pairwise_singleton _ _, (by decide), fun _ h => (by cases h), List.Pairwise.nil⟩
theorem dig10 : digB 10 = mk [49, 48] := by
  show mk (decDigits 10) = _
  rw [dec_big (by decide), dec_small (by decide)]
  rfl
theorem dig5 : digB 5 = mk [53] := by
  show mk (decDigits 5) = _
  rw [dec_small (by decide)]
  rfl
theorem dig0 : digB 0 = mk [48] := by
  show mk (decDigits 0) = _
  rw [dec_small (by decide)]
  rfl
theorem awO : outB awC = awT := by
  have e : cfWs awC = [[tTotal, digB 10], [tLevel, mk [97], digB 5, digB 0, tAll, tReject]] := rfl
  unfold outB
  rw [e, dig10, dig5, dig0]
  rfl
theorem awE : printE awC = 0 ∧ printS awC = awT := by
  have e : printE awC = 0 := by
    unfold printE
    rw [formed_iff.2 awF, awO]
    rfl
  refine ⟨e, ?_⟩
  unfold printS
  rw [e, awO]
  rfl
set_option maxRecDepth 20000 in
theorem awake_any (w : World) (hT : Tab w) : Calls Tryz.prog 5 #[] w fun e w' => e = .returned (.bool true) ∧ Below w.heap.size w w' := by
  have AL := alloc_below w (.cells (lvA awL) 38)
  have NB := Blk.new w 38 (lvA awL)
  have R1 : CfR (w.alloc (.cells (lvA awL) 38)) (.agg #[.int .i64 10, .int .i64 0, .int .i64 0, .int .i64 0, .slice (some ⟨w.heap.size, 0, none⟩) 1 1, .slice none 0 0]) awC :=
    ⟨⟨by decide, by decide⟩, ⟨fun l hl => by rw [List.mem_singleton.1 hl]; decide, fun _ h => by cases h⟩, _, 1, none, 0, [], rfl, Nat.le_refl _, Nat.le_refl _, fun _ => ⟨w.heap.size, 0, rfl, NB.lt, fun k hk j hj => by
      obtain rfl : k = 0 := by have : k < 1 := hk; omega
      rw [NB.cell]
      simp only [Nat.zero_mul, Nat.zero_add]
      match j, hj with
      | 0, _ => rfl
      | 1, _ => rfl
      | 2, _ => rfl
      | 3, _ => rfl
      | 4, _ => rfl
      | 5, _ => rfl
      | 6, _ => rfl
      | 7, _ => rfl
      | 8, _ => rfl
      | 9, _ => rfl⟩, rfl, fun h => absurd h (by decide), fun k h => absurd h (Nat.not_lt_zero _)⟩
  have P1 := print_ok _ awC _ R1 (hT.stays AL)
  rw [awE.1, awE.2] at P1
  have B1 : Hd (Below w.heap.size w (w.alloc (.cells (lvA awL) 38))) := ⟨AL⟩
  clear R1 NB AL hT
  unfold lvA awL awT at P1
  unfold lvA awL at B1
  simp only [mk] at P1 B1
  go_enter Tryz.func5, Tryz.ntmps5
  go_wp2_with fail
  go_at_call 7
  refine P1.mono ?_
  rintro e w2 ⟨rfl, b2⟩
  go_wp2_with fail
  go_ret
  exact ⟨rfl, B1.out.trans (b2.mono B1.out.size)⟩
end Go.Proofs.YtfollcabppkihaaGreatDoor
