/-
  What 'Deal' of the program answers, for every hash, every deck and every number of cards; and that the fixed answer of the statements ('awake') is met. No condition.
-/
import Derived.Test.YtcfjnflicgifjaaWalkB
namespace Go.Proofs.Ytcfjnflicgifjaa
open Go.RowKit

theorem deal_no (h deck n : Int) (w : World) (hr : (refH deck n == 0) = false) :
    Calls Try.prog 9 #[.int .u64 h, .int .i64 deck, .int .i64 n] w fun e w' => e = .returned (.tuple #[.slice none 0 0, .int .i64 (refH deck n)]) ∧ w' = w := by
  have h' : (refH deck n != 0) = true := by simpa using hr
  go_enter Try.func9, Try.ntmps9
  go_wp2_with (go_at_call 11; refine (hands_no _ _ _ hr).mono ?_; rintro e w' ⟨rfl, hw⟩; obtain rfl := hw.symm)
  go_ret2
  exact ⟨rfl, rfl⟩

/-- The hand that a number deals. -/
def hand (D H : Nat) : Nat → Int := ints (crd (at_ D H))

theorem deal_yes (H D n : Nat) (w : World) (hg : Good D n) (hH : H < 18446744073709551616) :
    Calls Try.prog 9 #[.int .u64 H, .int .i64 D, .int .i64 n] w fun e w' => ∃ b, e = .returned (.tuple #[.slice (some ⟨b, 0, none⟩) n n, .int .i64 0]) ∧ w.heap.size ≤ b ∧
      Own w' b n (hand D H) ∧ Below w.heap.size w w' := by
  obtain ⟨i0, hi, hz0, hz1, hz2⟩ := info_parts Try.info3
  obtain ⟨⟨hd0, hd1, hn0, hn1, hnd⟩, _⟩ := id hg
  go_enter Try.func9, Try.ntmps9
  go_wp2_with (first
    | (go_at_call 11; refine (hands_yes _ _ _ hg).mono ?_; rintro e w' ⟨rfl, hw⟩; obtain rfl := hw.symm)
    | (go_at_call 17; refine (cards_any _ _ hd0 hd1).mono ?_; rintro e w1 ⟨rfl, o1, hb1⟩; have hs1 := hb1.size)
    | (at_make; refine wpList_make_full _ rfl (.tmp 26) (.tmp 26) 24 rfl w.heap.size 3 i0 (.int .i64 0) 1 Try.underlying24 hi hz0 hz1 _ _ _ _ n rfl rfl rfl rfl (by rw [hz2]; omega) (by unfold maxLen; omega) hs1 ?_; intro w2 hown2 hgrow2; have hs2 := hgrow2.size))
  have o2 := Own.made hown2
  have b2 : Below w.heap.size w w2 := hb1.grown hgrow2 hs1 (by simp)
  have o1' : Own w2 w.heap.size D (ints (lf (at_ D H) 0)) := o1.carry ((Below.refl _ _).grown hgrow2 (Nat.le_refl _) (by simp))
  have hne : w.heap.size ≠ w1.heap.size := by have := o1.1; omega
  clear hown2 hgrow2 o1
  generalize w1.heap.size = c at *
  generalize hb : w.heap.size = b at *
  clear hb1
  go_loopw [0, 10, 30] (fun h l i wr => ∃ k : Nat, k ≤ n ∧ i = .int .i64 k ∧ h = .int .u64 (H / P D k : Nat) ∧ l = .slice (some ⟨b, 0, none⟩) (D - k) D ∧ Own wr b (D - k) (ints (lf (at_ D H) k)) ∧ Own wr c n (upto (hand D H) k) ∧ Below b w wr) (fun _ _ i _ => n - (intOf i).toNat)
  case atStart => exact ⟨0, Nat.zero_le _, rfl, by simp [P], rfl, o1', by rw [upto_zero]; exact o2, b2⟩
  case round =>
    obtain ⟨k, hk, rfl, rfl, rfl, p1, p2, p3⟩ := hrel
    by_cases hlt : k < n
    · have hat := at_lt (D := D) (H := H) (i := k) (by omega)
      have hx : H / P D k < 18446744073709551616 := Nat.lt_of_le_of_lt (Nat.div_le_self _ _) hH
      have hq : H / P D (k + 1) = H / P D k / (D - k) := by rw [P_succ, Nat.div_div_eq_div_mul]
      obtain ⟨c1, f1⟩ := p1.2 _ hat
      obtain ⟨c2, f2⟩ := p2.2 k hlt
      have r2 := p2.store k (hand D H k) hlt
      rw [upto_succ] at r2
      have r1 := p1.other (b' := c) hne.symm k (.int .i64 (hand D H k))
      have r3 := p3.setCell (p := ⟨c, k, none⟩) hs1 (.int .i64 (hand D H k))
      have e1 : ints (lf (at_ D H) k) (at_ D H k) = hand D H k := rfl
      have e2 : (ints fun j => if j < at_ D H k then lf (at_ D H) k j else lf (at_ D H) k (j + 1)) = ints (lf (at_ D H) (k + 1)) := rfl
      have e3 : ((H / P D k : Nat) : Int).tmod ((D - k : Nat) : Int) = (at_ D H k : Nat) := (Int.ofNat_tmod _ _).symm
      have e4 : ((H / P D k : Nat) : Int).tdiv ((D - k : Nat) : Int) = (H / P D (k + 1) : Nat) := by rw [hq]; exact (Int.ofNat_tdiv _ _).symm
      have hy : H / P D (k + 1) < 18446744073709551616 := Nat.lt_of_le_of_lt (Nat.div_le_self _ _) hH
      have e5 : D - k - 1 = D - (k + 1) := by omega
      have DD := fun (wx : World) (ho : Own wx b (D - k) (ints (lf (at_ D H) k))) => delete_one b (D - k) D (at_ D H k) (lf (at_ D H) k) wx ho hat (by omega) hd1
      rw [e1] at c1
      rw [e2, e5] at DD
      have hd2 : 1 ≤ D - k := by omega
      have hd3 : D - k ≤ 64 := by omega
      generalize hgl : lf (at_ D H) k = gl at *
      generalize hgm : lf (at_ D H) (k + 1) = gm at *
      generalize hgv : hand D H k = v at *
      generalize hgt : at_ D H k = t at *
      generalize hgx : H / P D k = x at *
      generalize hgy : H / P D (k + 1) = y at *
      generalize hgd : D - k = d at *
      have A3 : Hid (Own _ _ _ _) := r2
      have A4 : Hid (Own _ _ _ _) := r1
      have A5 : Hid (Below _ _ _) := r3
      have AD : Hid (∀ wx : World, _ → _) := DD
      have AY : Hid (H / P D (k + 1) = y) := hgy
      have AL : Hid (lf (at_ D H) (k + 1) = gm) := hgm
      clear p1 p2 p3 o1' o2 b2 hg hq r1 r2 r3 e1 e2 e5 DD hgl hgm hgv hgt hgx hgy hgd
      go_wp2_with fail
      go_at_call 18
      refine (AD.out _ A4.out).mono ?_
      rintro e w3 ⟨rfl, o3, ho3⟩
      have o4 := ho3.other c n _ hne.symm A3.out
      have b4 := A5.out.trans (ho3.below b (Nat.le_refl _))
      clear A3 A4 A5 AD ho3
      go_wp2
      go_roundw
      case rel => exact ⟨k + 1, by omega, by go_num, by rw [AY.out], rfl, by rw [AL.out]; exact o3, o4, b4⟩
      case measure => simp [intOf]; omega
    · obtain rfl : k = n := by omega
      have q1 : Own wr c k (hand D H) := p2.congr fun j hj => by simp [upto, hj]
      clear p1 p2 o1' o2 b2 hg
      go_wp2
      go_ret2
      subst hb
      exact ⟨_, rfl, hs1, q1, p3⟩

def ax : Nat → Int := fun k => ([1, 2] : List Int).getD k 0
theorem good42 : Good 4 2 := ⟨⟨by decide, by decide, by decide, by decide, by decide⟩, by decide⟩
theorem ax_hand : ∀ k, k < 2 → hand 4 5 k = ax k := by decide

theorem alloc_row (w : World) (x y : Int) (f : Nat → Int) (h0 : f 0 = x) (h1 : f 1 = y) : Row (w.alloc (.cells #[.int .i64 x, .int .i64 y] 3)) (some ⟨w.heap.size, 0, none⟩) 2 f := by
  intro _
  refine ⟨w.heap.size, 0, rfl, by simp, fun k hk => ?_⟩
  match k, hk with
  | 0, _ => rw [h0]; simp [go_sem]
  | 1, _ => rw [h1]; simp [go_sem]

theorem awake_any (w : World) : Calls Try.prog 8 #[] w fun e w' => e = .returned (.bool true) ∧ Below w.heap.size w w' := by
  go_enter Try.func8, Try.ntmps8
  go_wp2_with (first
    | (go_at_call 9; refine (deal_yes 5 4 2 _ good42 (by decide)).mono ?_; rintro e w1 ⟨b, rfl, hb, o1, hbel⟩; have h2 := (o1.congr ax_hand).row; have h3 := alloc_row w1 1 2 ax rfl rfl)
    | (go_at_call 13; refine (same_yes _ _ _ _ _ _ _ _ (h2.carry ((Below.refl _ _).alloc (Nat.le_refl _) _)) h3 (by decide) (fun _ _ => rfl)).mono ?_; rintro e w2 ⟨rfl, hbel2⟩))
  go_ret
  refine ⟨rfl, ?_⟩
  exact hbel.trans (((Below.refl _ _).alloc hbel.size _).trans (hbel2.mono (by have := hbel.size; simp; omega)))
end Go.Proofs.Ytcfjnflicgifjaa
