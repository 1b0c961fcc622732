/-
  A list beside a heap: its first one, and what is left without it.
-/
import Derived.Test.YtomohkoenohmbaaRowO
namespace Go.Proofs.Ytomohkoenohmbaa
open Go.RowKit Go.Lib Go.Sort Go.Maps

theorem head_least {L : List (Int × Int)} {M : Int × Int → Prop} (O : ListOf L M) {n : Nat} (hl : L.length = n) (hn : 0 < n) {x : Int × Int} (hx : M x ∧ ∀ y, M y → ¬ lt y x) : L.getD 0 (0, 0) = x := by
  cases L with
  | nil => simp at hl; omega
  | cons z L =>
    obtain ⟨h1, _⟩ := List.pairwise_cons.1 O.1
    rcases List.mem_cons.1 ((O.2 x).2 hx.1) with e | e
    · exact e.symm
    · exact absurd (h1 x e) (hx.2 z ((O.2 z).1 List.mem_cons_self))

theorem RL.tail {S : Nat → Prop} {w : World} {b off m cap : Nat} {x : Int × Int} {L : List (Int × Int)} (R : RL S w (some ⟨b, off, Option.none⟩) m cap (x :: L)) (hm : 0 < m) : RL S w (some ⟨b, off + 2, Option.none⟩) (m - 1) (cap - 1) L := by
  have hl := R.len
  have hle := R.le
  have hr := R.room
  obtain ⟨b', off', e, h1, h2, h3⟩ := R.row hm
  cases e
  refine ⟨by simp at hl; omega, fun h => (by cases h), by omega, by omega, fun x e => ⟨b, off + 2, (by cases e; rfl)⟩, fun hn => ⟨b, off + 2, rfl, h1, h2, fun k hk => ?_⟩⟩
  have := h3 (k + 1) (by omega)
  rw [show off + (k + 1) * 2 = off + 2 + k * 2 by omega] at this
  simpa using this
theorem RL.tail0 {S : Nat → Prop} {w : World} {b off : Nat} {x : Int × Int} {L : List (Int × Int)} (R : RL S w (some ⟨b, off, Option.none⟩) 1 1 (x :: L)) : RL S w (some ⟨b, off, Option.none⟩) 0 0 L :=
  ⟨by have := R.len; simp at this; simp [this], fun h => (by cases h), Nat.le_refl _, Nat.zero_le _, fun x e => ⟨b, off, (by cases e; rfl)⟩, fun h => by omega⟩
end Go.Proofs.Ytomohkoenohmbaa
