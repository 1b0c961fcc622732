/-
  The fixed answer of the statements ('awake') is met. No condition.
-/
import Derived.Test.YtpogmaccipcdoaaWalkC
namespace Go.Proofs.Ytpogmaccipcdoaa
open Go.RowKit

def aw : Nat → Int := fun k => ([50, 30, 20] : List Int).getD k 0
def ax : Nat → Int := fun k => ([4, 2, 1] : List Int).getD k 0

theorem aw_fits : Fits 7 3 aw := ⟨by decide, by decide, by decide, by decide, by decide⟩
theorem aw_part : ∀ k, k < 3 → part 7 3 aw k = ax k := by decide

theorem alloc_row (w : World) (x y z : Int) (f : Nat → Int) (h0 : f 0 = x) (h1 : f 1 = y) (h2 : f 2 = z) : Row (w.alloc (.cells #[.int .i64 x, .int .i64 y, .int .i64 z] 3)) (some ⟨w.heap.size, 0, none⟩) 3 f := by
  intro _
  refine ⟨w.heap.size, 0, rfl, by simp, fun k hk => ?_⟩
  match k, hk with
  | 0, _ => rw [h0]; simp [go_sem]
  | 1, _ => rw [h1]; simp [go_sem]
  | 2, _ => rw [h2]; simp [go_sem]

theorem awake_any (w : World) : Calls Try.prog 9 #[] w fun e w' => e = .returned (.bool true) ∧ Below w.heap.size w w' := by
  have h1 := alloc_row w 50 30 20 aw rfl rfl rfl
  go_enter Try.func9, Try.ntmps9
  go_wp2_with (first
    | (go_at_call 11; refine (split_yes _ _ _ _ _ _ h1 aw_fits).mono ?_; rintro e w1 ⟨b, rfl, hb, o1, hbel⟩; have h2 := (o1.congr aw_part).row; have h3 := alloc_row w1 4 2 1 ax rfl rfl rfl)
    | (go_at_call 13; refine (same_yes _ _ _ _ _ _ _ _ (h2.carry ((Below.refl _ _).alloc (Nat.le_refl _) _)) h3 (by decide) (fun _ _ => rfl)).mono ?_; rintro e w2 ⟨rfl, hbel2⟩))
  go_ret
  refine ⟨rfl, ?_⟩
  have b1 : Below w.heap.size w w1 := ((Below.refl _ _).alloc (Nat.le_refl _) _).trans (hbel.mono (by simp))
  exact b1.trans (((Below.refl _ _).alloc b1.size _).trans (hbel2.mono (by have := b1.size; simp; omega)))
end Go.Proofs.Ytpogmaccipcdoaa
