/-
  Worlds that were only drawn from; seven cells of a table; the error of a table. No condition.
-/
import Derived.Test.YthkdbphgiobcdaaGreatDoorB42
import Derived.Test.YthkdbphgiobcdaaGreatDoorB17
import Derived.Test.YthkdbphgiobcdaaGreatDoorB18
import Derived.BigQuiet
import Derived.Laws.Cover1
namespace Go.Proofs.YthkdbphgiobcdaaGreatDoor
open Go.RowKit

theorem Blk.seven {w : World} {b t : Nat} {v0 v1 v2 v3 v4 v5 v6 : Value} (h : Blk w b t #[v0, v1, v2, v3, v4, v5, v6]) :
    w.cell? ⟨b, 0, none⟩ = some v0 ∧ w.cell? ⟨b, 1, none⟩ = some v1 ∧ w.cell? ⟨b, 2, none⟩ = some v2 ∧ w.cell? ⟨b, 3, none⟩ = some v3 ∧ w.cell? ⟨b, 4, none⟩ = some v4 ∧ w.cell? ⟨b, 5, none⟩ = some v5 ∧ w.cell? ⟨b, 6, none⟩ = some v6 :=
  ⟨h.cellv 0 rfl, h.cellv 1 rfl, h.cellv 2 rfl, h.cellv 3 rfl, h.cellv 4 rfl, h.cellv 5 rfl, h.cellv 6 rfl⟩
theorem mk_bnd {n : Nat} {C : Cf} (h : Bnd n C) : Bnd (n + 2) (mkC C) := by
  unfold mkC
  split
  · exact (fillC_bnd h).turn (srtB_perm _) (srtB_perm _)
  · exact ⟨Nat.zero_le _, Nat.zero_le _, fun s hs => absurd hs (by intro h; cases h)⟩
def DrG (w W : World) : Prop := ∃ n, W = w.drewN n
theorem DrG.cell {w W : World} (h : DrG w W) {p : Addr} {v : Value} (hc : w.cell? p = some v) : W.cell? p = some v := by
  obtain ⟨n, rfl⟩ := h
  exact hc
theorem DrG.more {w W : World} (h : DrG w W) (m : Nat) : DrG w (W.drewN m) := by
  obtain ⟨n, rfl⟩ := h
  exact ⟨n + m, by rw [World.drewN_drewN]⟩
theorem DrG.blk {w W : World} (h : DrG w W) {b t : Nat} {cs : Array Value} (hc : Blk w b t cs) : Blk W b t cs := by
  obtain ⟨n, rfl⟩ := h
  exact hc
theorem DrG.below {w W : World} (h : DrG w W) : Below w.heap.size w W := by
  obtain ⟨n, rfl⟩ := h
  exact ⟨rfl, rfl, rfl, Nat.le_refl _, fun _ _ => rfl⟩
theorem errV_zero {p : Int × ByteArray} (h : p.1 = 0) : errV p = .nilIface := if_pos h
end Go.Proofs.YthkdbphgiobcdaaGreatDoor
