/-
  A configuration as a value.
-/
import Derived.Test.YtfollcabppkihaaGreatDoorPush
namespace Go.Proofs.YtfollcabppkihaaGreatDoor
open Go.RowKit

/-- A configuration as a value. -/
def CfV (B : Nat) (w : World) (v : Value) (C : Cf) : Prop :=
  ∃ vL vS V, v = .agg #[.int .i64 C.total, .int .i64 C.period, .int .i64 C.perSeat, .int .i64 C.most, vL, vS] ∧ LvOwn B w vL C.levels ∧ ScOwn B w vS C.schemas V
theorem info42 : (Tryz.prog.info? 41).map (fun i => (i.zero, i.size, i.bytes)) = some (some (.agg #[.string ⟨#[]⟩, .string ⟨#[]⟩, .int .i64 0, .int .i64 0, .slice none 0 0]), 5, 72) := by kernel_rfl
theorem cfv_zero (B : Nat) (w : World) : CfV B w (.agg #[.int .i64 0, .int .i64 0, .int .i64 0, .int .i64 0, .slice none 0 0, .slice none 0 0]) cf0 :=
  ⟨_, _, [], rfl, World.ownsRow_nil _ _ _ _, ⟨rfl, World.ownsRow_nil _ _ _ _, fun _ h => absurd h (Nat.not_lt_zero _)⟩⟩

theorem Lst.mono {B B' : Nat} {w : World} {v : Value} {L : List ByteArray} (h : Lst B w v L) (k : B' ≤ B) : Lst B' w v L := by
  obtain ⟨a, c, e, hr, hc⟩ := h
  exact ⟨a, c, e, hr.mono k, hc⟩
theorem RlV.mono {B B' : Nat} {w : World} {cs : List Value} {r : Rl} (h : RlV B w cs r) (k : B' ≤ B) : RlV B' w cs r := by
  obtain ⟨v0, v1, v2, v3, v4, e, h0, h1, h2, h3, h4⟩ := h
  exact ⟨v0, v1, v2, v3, v4, e, h0.mono k, h1.mono k, h2.mono k, h3.mono k, h4.mono k⟩
theorem RlsV.mono {B B' : Nat} {w : World} (k : B' ≤ B) : ∀ (cs : List Value) (rs : List Rl), RlsV B w cs rs → RlsV B' w cs rs
  | _, [], h => h
  | _, _ :: rs, ⟨c, cs', e, hr, ht⟩ => ⟨c, cs', e, hr.mono k, RlsV.mono k cs' rs ht⟩
theorem ScOwn.mono {B B' : Nat} {w : World} {v : Value} {ss : List Sc} {V : List Value} (h : ScOwn B w v ss V) (k : B' ≤ B) : ScOwn B' w v ss V :=
  ⟨h.len, owns_mono h.own k, fun i hi hi' => by obtain ⟨cs, ho, hr⟩ := h.rls i hi hi'; exact ⟨cs, owns_mono ho k, RlsV.mono k cs _ hr⟩⟩

end Go.Proofs.YtfollcabppkihaaGreatDoor
