/-
  The fixed answers that each law begins with: they are right. No condition.
-/
import Derived.Test.YtendblngcbknpaaSb
namespace Go.Proofs.Ytendblngcbknpaa
open Go.RowKit

/-- A list of one text, and of two, as they are laid. -/
theorem ls_one (w : World) (x : ByteArray) (h : x.size ≤ 9223372036854775807) : LsR (w.alloc (.cells #[.string x] 9)) (.slice (some ⟨w.heap.size, 0, none⟩) 1 1) [x] := by
  refine ⟨_, _, rfl, fun _ => ⟨w.heap.size, 0, rfl, by simp, fun k hk => ?_⟩, Nat.le_refl _, by simp, fun y hy => by rw [List.mem_singleton.1 hy]; exact h⟩
  obtain rfl : k = 0 := by simp at hk; exact hk
  exact (Blk.new w 9 #[.string x]).cellv 0 rfl
theorem ls_two (w : World) (x y : ByteArray) (h : x.size ≤ 9223372036854775807) (h' : y.size ≤ 9223372036854775807) : LsR (w.alloc (.cells #[.string x, .string y] 9)) (.slice (some ⟨w.heap.size, 0, none⟩) 2 2) [x, y] := by
  refine ⟨_, _, rfl, fun _ => ⟨w.heap.size, 0, rfl, by simp, fun k hk => ?_⟩, Nat.le_refl _, by simp, fun z hz => ?_⟩
  · have N := Blk.new w 9 #[.string x, .string y]
    match k, hk with
    | 0, _ => exact N.cellv 0 rfl
    | 1, _ => exact N.cellv 1 rfl
  · rcases List.mem_cons.1 hz with rfl | hz
    · exact h
    · rw [List.mem_singleton.1 hz]; exact h'
theorem ls_nil (w : World) : LsR w (.slice none 0 0) [] := ⟨none, 0, rfl, fun h => absurd h (Nat.lt_irrefl 0), Nat.le_refl _, Nat.zero_le _, fun _ h => by cases h⟩
def rlA : Rl := ⟨[⟨#[97]⟩], [], [⟨#[42]⟩], [⟨#[42]⟩], [⟨#[42]⟩]⟩
def rqA (x : ByteArray) : Rq := ⟨x, [], ⟨#[]⟩, ⟨#[]⟩, ⟨#[]⟩, 0⟩
theorem awake1 : ruleB rlA (rqA ⟨#[97]⟩) = true := by decide +kernel
theorem awake2 : ruleB rlA (rqA ⟨#[98]⟩) = false := by decide +kernel
theorem awake3 : hasB [⟨#[120]⟩, ⟨#[121]⟩] ⟨#[121]⟩ = true := by decide +kernel

theorem aw_world (w : World) : Below w.heap.size w (((((w.alloc (.cells #[.string ⟨#[97]⟩] 9)).alloc (.cells #[.string ⟨#[42]⟩] 9)).alloc (.cells #[.string ⟨#[42]⟩] 9)).alloc (.cells #[.string ⟨#[42]⟩] 9)).alloc (.cells #[.slice (some ⟨w.heap.size, 0, none⟩) 1 1, .slice none 0 0, .slice (some ⟨w.heap.size + 1, 0, none⟩) 1 1, .slice (some ⟨w.heap.size + 1 + 1, 0, none⟩) 1 1, .slice (some ⟨w.heap.size + 1 + 1 + 1, 0, none⟩) 1 1] 39)) ∧ RuR (((((w.alloc (.cells #[.string ⟨#[97]⟩] 9)).alloc (.cells #[.string ⟨#[42]⟩] 9)).alloc (.cells #[.string ⟨#[42]⟩] 9)).alloc (.cells #[.string ⟨#[42]⟩] 9)).alloc (.cells #[.slice (some ⟨w.heap.size, 0, none⟩) 1 1, .slice none 0 0, .slice (some ⟨w.heap.size + 1, 0, none⟩) 1 1, .slice (some ⟨w.heap.size + 1 + 1, 0, none⟩) 1 1, .slice (some ⟨w.heap.size + 1 + 1 + 1, 0, none⟩) 1 1] 39)) (.slice (some ⟨w.heap.size, 0, none⟩) 1 1) (.slice none 0 0) (.slice (some ⟨w.heap.size + 1, 0, none⟩) 1 1) (.slice (some ⟨w.heap.size + 1 + 1, 0, none⟩) 1 1) (.slice (some ⟨w.heap.size + 1 + 1 + 1, 0, none⟩) 1 1) rlA ∧ Blk (((((w.alloc (.cells #[.string ⟨#[97]⟩] 9)).alloc (.cells #[.string ⟨#[42]⟩] 9)).alloc (.cells #[.string ⟨#[42]⟩] 9)).alloc (.cells #[.string ⟨#[42]⟩] 9)).alloc (.cells #[.slice (some ⟨w.heap.size, 0, none⟩) 1 1, .slice none 0 0, .slice (some ⟨w.heap.size + 1, 0, none⟩) 1 1, .slice (some ⟨w.heap.size + 1 + 1, 0, none⟩) 1 1, .slice (some ⟨w.heap.size + 1 + 1 + 1, 0, none⟩) 1 1] 39)) (w.heap.size + 1 + 1 + 1 + 1) 39 #[.slice (some ⟨w.heap.size, 0, none⟩) 1 1, .slice none 0 0, .slice (some ⟨w.heap.size + 1, 0, none⟩) 1 1, .slice (some ⟨w.heap.size + 1 + 1, 0, none⟩) 1 1, .slice (some ⟨w.heap.size + 1 + 1 + 1, 0, none⟩) 1 1] := by
  have s0 : (⟨#[97]⟩ : ByteArray).size ≤ 9223372036854775807 := by decide
  have s1 : (⟨#[42]⟩ : ByteArray).size ≤ 9223372036854775807 := by decide
  have L1 := ls_one w _ s0
  have B1 := alloc_below w (.cells #[.string ⟨#[97]⟩] 9)
  have z1 : (w.alloc (.cells #[.string ⟨#[97]⟩] 9)).heap.size = w.heap.size + 1 := by simp
  generalize w.alloc (.cells #[.string ⟨#[97]⟩] 9) = u1 at *
  have L2 := ls_one u1 _ s1
  have B2 := alloc_below u1 (.cells #[.string ⟨#[42]⟩] 9)
  have z2 : (u1.alloc (.cells #[.string ⟨#[42]⟩] 9)).heap.size = w.heap.size + 1 + 1 := by simp [z1]
  rw [z1] at L2
  generalize u1.alloc (.cells #[.string ⟨#[42]⟩] 9) = u2 at *
  have L3 := ls_one u2 _ s1
  have B3 := alloc_below u2 (.cells #[.string ⟨#[42]⟩] 9)
  have z3 : (u2.alloc (.cells #[.string ⟨#[42]⟩] 9)).heap.size = w.heap.size + 1 + 1 + 1 := by simp [z2]
  rw [z2] at L3
  generalize u2.alloc (.cells #[.string ⟨#[42]⟩] 9) = u3 at *
  have L4 := ls_one u3 _ s1
  have B4 := alloc_below u3 (.cells #[.string ⟨#[42]⟩] 9)
  have z4 : (u3.alloc (.cells #[.string ⟨#[42]⟩] 9)).heap.size = w.heap.size + 1 + 1 + 1 + 1 := by simp [z3]
  rw [z3] at L4
  generalize u3.alloc (.cells #[.string ⟨#[42]⟩] 9) = u4 at *
  have N5 := Blk.new u4 39 #[.slice (some ⟨w.heap.size, 0, none⟩) 1 1, .slice none 0 0, .slice (some ⟨w.heap.size + 1, 0, none⟩) 1 1, .slice (some ⟨w.heap.size + 1 + 1, 0, none⟩) 1 1, .slice (some ⟨w.heap.size + 1 + 1 + 1, 0, none⟩) 1 1]
  have B5 := alloc_below u4 (.cells #[.slice (some ⟨w.heap.size, 0, none⟩) 1 1, .slice none 0 0, .slice (some ⟨w.heap.size + 1, 0, none⟩) 1 1, .slice (some ⟨w.heap.size + 1 + 1, 0, none⟩) 1 1, .slice (some ⟨w.heap.size + 1 + 1 + 1, 0, none⟩) 1 1] 39)
  rw [z4] at N5
  generalize u4.alloc _ = u5 at *
  exact ⟨B1.trans ((B2.mono (by omega)).trans ((B3.mono (by omega)).trans ((B4.mono (by omega)).trans (B5.mono (by omega))))), ⟨(((L1.carry B2).carry B3).carry B4).carry B5, ls_nil _, ((L2.carry B3).carry B4).carry B5, (L3.carry B4).carry B5, L4.carry B5⟩, N5⟩

set_option maxHeartbeats 2000000 in
theorem awake_ok (w : World) : Calls Try.prog 7 #[] w fun e w' => e = .returned (.bool true) ∧ Below w.heap.size w w' := by
  have AW := aw_world w
  go_enter Try.func7, Try.ntmps7
  go_upto_region 2 with fail
  obtain ⟨g0, hg0⟩ : ∃ g0, g0 = w.heap.size := ⟨_, rfl⟩
  generalize World.alloc _ _ = u5 at *
  generalize w.heap.size + 1 + 1 + 1 + 1 = g4 at *
  generalize w.heap.size + 1 + 1 + 1 = g3 at *
  generalize w.heap.size + 1 + 1 = g2 at *
  generalize w.heap.size + 1 = g1 at *
  obtain ⟨B5, R5, N5⟩ := AW
  have I1 := rule_ok rlA (rqA ⟨#[97]⟩) u5 R5 (ls_nil _)
  rw [awake1] at I1
  have H2 : Hd (∀ W, Below u5.heap.size u5 W → (Calls Try.prog 14 #[.agg #[.slice (some ⟨w.heap.size, 0, none⟩) 1 1, .slice none 0 0, .slice (some ⟨g1, 0, none⟩) 1 1, .slice (some ⟨g2, 0, none⟩) 1 1, .slice (some ⟨g3, 0, none⟩) 1 1], .agg #[.string ⟨#[98]⟩, .slice none 0 0, .string ⟨#[]⟩, .string ⟨#[]⟩, .string ⟨#[]⟩, .int .i64 0]] W fun e w' => e = .returned (.bool false) ∧ Below W.heap.size W w') ∧ Blk W g4 39 #[.slice (some ⟨w.heap.size, 0, none⟩) 1 1, .slice none 0 0, .slice (some ⟨g1, 0, none⟩) 1 1, .slice (some ⟨g2, 0, none⟩) 1 1, .slice (some ⟨g3, 0, none⟩) 1 1]) := ⟨fun W b => by
    have I2 := rule_ok rlA (rqA ⟨#[98]⟩) W (R5.carry b) (ls_nil _)
    rw [awake2] at I2
    exact ⟨I2, N5.kept (Kept.of_below b (fun _ => False)) id⟩⟩
  have H3 : Hd (∀ W : World, Calls Try.prog 16 #[.slice (some ⟨W.heap.size, 0, none⟩) 2 2, .string ⟨#[121]⟩] (W.alloc (.cells #[.string ⟨#[120]⟩, .string ⟨#[121]⟩] 9)) fun e w' => e = .returned (.bool true) ∧ w' = W.alloc (.cells #[.string ⟨#[120]⟩, .string ⟨#[121]⟩] 9)) := ⟨fun W => by
    have I3 := has_ok _ _ ⟨#[121]⟩ _ (ls_two W ⟨#[120]⟩ ⟨#[121]⟩ (by decide) (by decide))
    rw [awake3] at I3
    exact I3⟩
  unfold rqA at I1
  have HB : Hd (Below w.heap.size w u5) := ⟨B5⟩
  have e0 := N5.cellv (v := .slice (some ⟨w.heap.size, 0, none⟩) 1 1) 0 rfl
  have e1 := N5.cellv (v := .slice none 0 0) 1 rfl
  have e2 := N5.cellv (v := .slice (some ⟨g1, 0, none⟩) 1 1) 2 rfl
  have e3 := N5.cellv (v := .slice (some ⟨g2, 0, none⟩) 1 1) 3 rfl
  have e4 := N5.cellv (v := .slice (some ⟨g3, 0, none⟩) 1 1) 4 rfl
  clear R5 N5 B5 hg0
  go_wp2_with fail
  refine I1.mono ?_
  rintro e w6 ⟨rfl, b6⟩
  obtain ⟨I2, N6⟩ := H2.out w6 b6
  have B6 : Hd (Below w.heap.size w w6) := ⟨HB.out.trans (b6.mono HB.out.size)⟩
  have f0 := N6.cellv (v := .slice (some ⟨w.heap.size, 0, none⟩) 1 1) 0 rfl
  have f1 := N6.cellv (v := .slice none 0 0) 1 rfl
  have f2 := N6.cellv (v := .slice (some ⟨g1, 0, none⟩) 1 1) 2 rfl
  have f3 := N6.cellv (v := .slice (some ⟨g2, 0, none⟩) 1 1) 3 rfl
  have f4 := N6.cellv (v := .slice (some ⟨g3, 0, none⟩) 1 1) 4 rfl
  clear I1 b6 N6 e0 e1 e2 e3 e4
  go_wp2_with fail
  refine I2.mono ?_
  rintro e w7 ⟨rfl, b7⟩
  have B7 : Hd (Below w.heap.size w w7) := ⟨B6.out.trans (b7.mono B6.out.size)⟩
  have I3 := H3.out w7
  clear I2 b7 f0 f1 f2 f3 f4 H2 H3
  go_wp2_with fail
  refine I3.mono ?_
  rintro e w8 ⟨rfl, rfl⟩
  have B8 : Hd (Below w.heap.size w (w7.alloc (.cells #[.string ⟨#[120]⟩, .string ⟨#[121]⟩] 9))) := ⟨B7.out.trans ((alloc_below _ _).mono B7.out.size)⟩
  clear I3
  go_wp2_with fail
  go_ret
  exact ⟨rfl, B8.out⟩
end Go.Proofs.Ytendblngcbknpaa
