/-
  'awake'. Condition: the library's table of powers.
-/
import Derived.Test.YtfollcabppkihaaDoorPrO
namespace Go.Proofs.YtfollcabppkihaaDoor
open Go.RowKit Go.Lib

def awL : Lv := ⟨mk [97], 2, 5, 0, -1, 0, 0, 0, 0, 0⟩
def awC : Cf := ⟨10, 0, 0, 0, [awL], []⟩
def awT : ByteArray := ⟨#[116, 111, 116, 97, 108, 32, 49, 48, 10, 108, 101, 118, 101, 108, 32, 97, 32, 53, 32, 48, 32, 97, 108, 108, 32, 114, 101, 106, 101, 99, 116, 10]⟩
theorem awF : Formed awC := ⟨(by decide), (by decide), .inl ⟨rfl, rfl⟩, (by decide), fun l hl => (by
  rw [List.mem_singleton.1 hl]
  exact lvOk_iff.2 ⟨by decide, .inr (.inl ⟨rfl, by decide, by decide⟩)⟩), List.pairwise_singleton _ _, (by decide), fun _ h => (by cases h), List.Pairwise.nil⟩
theorem dig10 : digB 10 = mk [49, 48] := by
  show mk (decDigits 10) = _
  rw [dec_big (by decide), dec_small (by decide)]
  rfl
theorem dig5 : digB 5 = mk [53] := by
  show mk (decDigits 5) = _
  rw [dec_small (by decide)]
  rfl
theorem dig0 : digB 0 = mk [48] := by
  show mk (decDigits 0) = _
  rw [dec_small (by decide)]
  rfl
theorem awO : outB awC = awT := by
  have e : cfWs awC = [[tTotal, digB 10], [tLevel, mk [97], digB 5, digB 0, tAll, tReject]] := rfl
  unfold outB
  rw [e, dig10, dig5, dig0]
  rfl
theorem awE : printE awC = 0 ∧ printS awC = awT := by
  have e : printE awC = 0 := by
    unfold printE
    rw [formed_iff.2 awF, awO]
    rfl
  refine ⟨e, ?_⟩
  unfold printS
  rw [e, awO]
  rfl
set_option maxRecDepth 20000 in
theorem awake_any (w : World) (hT : Tab w) : Calls Tryd.prog 5 #[] w fun e w' => e = .returned (.bool true) ∧ Below w.heap.size w w' := by
  have AL := alloc_below w (.cells (lvA awL) 37)
  have NB := Blk.new w 37 (lvA awL)
  have R1 : CfR (w.alloc (.cells (lvA awL) 37)) (.agg #[.int .i64 10, .int .i64 0, .int .i64 0, .int .i64 0, .slice (some ⟨w.heap.size, 0, none⟩) 1 1, .slice none 0 0]) awC :=
    ⟨⟨by decide, by decide⟩, ⟨fun l hl => by rw [List.mem_singleton.1 hl]; decide, fun _ h => by cases h⟩, _, 1, none, 0, [], rfl, Nat.le_refl _, Nat.le_refl _, fun _ => ⟨w.heap.size, 0, rfl, NB.lt, fun k hk j hj => by
      obtain rfl : k = 0 := by have : k < 1 := hk; omega
      rw [NB.cell]
      simp only [Nat.zero_mul, Nat.zero_add]
      match j, hj with
      | 0, _ => rfl
      | 1, _ => rfl
      | 2, _ => rfl
      | 3, _ => rfl
      | 4, _ => rfl
      | 5, _ => rfl
      | 6, _ => rfl
      | 7, _ => rfl
      | 8, _ => rfl
      | 9, _ => rfl⟩, rfl, fun h => absurd h (by decide), fun k h => absurd h (Nat.not_lt_zero _)⟩
  have P1 := print_ok _ awC _ R1 (hT.stays AL)
  rw [awE.1, awE.2] at P1
  have B1 : Hd (Below w.heap.size w (w.alloc (.cells (lvA awL) 37))) := ⟨AL⟩
  clear R1 NB AL hT
  unfold lvA awL awT at P1
  unfold lvA awL at B1
  simp only [mk] at P1 B1
  go_enter Tryd.func5, Tryd.ntmps5
  go_wp2_with fail
  go_at_call 8
  refine P1.mono ?_
  rintro e w2 ⟨rfl, b2⟩
  go_wp2_with fail
  go_ret
  exact ⟨rfl, B1.out.trans (b2.mono B1.out.size)⟩
end Go.Proofs.YtfollcabppkihaaDoor
