/-
  What 'DealNames' of the statements answers: true, for any cards that lie in memory and any deck. No other condition.
-/
import Derived.Test.YtcfjnflicgifjaaRefB
namespace Go.Proofs.Ytcfjnflicgifjaa
open Go.RowKit

theorem Row.congr {w : World} {a : Option Addr} {n : Nat} {f g : Nat → Int} (h : Row w a n f) (e : ∀ k, k < n → f k = g k) : Row w a n g := by
  intro hn
  obtain ⟨b, off, e', hb, hc⟩ := h hn
  exact ⟨b, off, e', hb, fun k hk => by rw [← e k hk]; exact hc k hk⟩

/-- The number that any cards are told as; 0 where they are refused. -/
def numA (deck : Int) (n : Nat) (f : Nat → Int) : Nat := if refH deck n = 0 then numW deck.toNat n f else 0

theorem which_all (deck : Int) (a : Option Addr) (n cap : Nat) (f : Nat → Int) (w : World) (hr : Row w a n f) (hc : n ≤ cap) :
    Calls Try.prog 15 #[.slice a n cap, .int .i64 deck] w fun e w' => e = .returned (.tuple #[.int .u64 (numA deck n f), .int .i64 (refW deck n f)]) ∧ Below w.heap.size w w' := by
  by_cases z : refH deck n = 0
  · obtain ⟨D, m, rfl, e, hg⟩ := good_of z
    obtain rfl : n = m := by omega
    have eA : numA D n f = numW D n f := by unfold numA; rw [if_pos z, Int.toNat_natCast]
    rw [eA]
    by_cases y : refW D n f = 0
    · obtain ⟨c, hc1, hh⟩ := isHand_of hg y
      have eN : numW D n f = dig D (rk c) n := by
        unfold numW
        rw [if_pos y]
        refine dig_congr n fun i hi => ?_
        have he : ∀ j, j < n → (f j).toNat = c j := fun j hj => by rw [hc1 j hj]; unfold ints; omega
        show (f i).toNat - cnt (fun k => (f k).toNat) i (f i).toNat = c i - cnt c i (c i)
        rw [he i hi, cnt_congr i (d := c) (fun j hj => he j (by omega))]
      rw [eN, y]
      exact which_yes D a n cap c w (hr.congr hc1) hc hg hh
    · have eN : numW D n f = 0 := by unfold numW; rw [if_neg y]
      rw [eN]
      refine (which_no D a n cap f w hr hc (by simpa using y)).mono ?_
      rintro e w' ⟨rfl, rfl⟩
      exact ⟨rfl, Below.refl _ _⟩
  · have eA : numA deck n f = 0 := by unfold numA; rw [if_neg z]
    have z' : (refH deck n == 0) = false := by simpa using z
    rw [eA]
    refine (which_no deck a n cap f w hr hc (by rw [refW_bad z']; exact z')).mono ?_
    rintro e w' ⟨rfl, rfl⟩
    exact ⟨rfl, Below.refl _ _⟩

theorem rwhich_all (deck : Int) (a : Option Addr) (n cap : Nat) (f : Nat → Int) (w : World) (hr : Row w a n f) :
    Calls Try.prog 16 #[.slice a n cap, .int .i64 deck] w fun e w' => e = .returned (.tuple #[.int .u64 (numA deck n f), .int .i64 (refW deck n f)]) ∧ Below w.heap.size w w' := by
  by_cases z : refH deck n = 0
  · obtain ⟨D, m, rfl, e, hg⟩ := good_of z
    obtain rfl : n = m := by omega
    have eA : numA D n f = numW D n f := by unfold numA; rw [if_pos z, Int.toNat_natCast]
    rw [eA]
    exact rwhich_good D a n cap f w hr hg
  · have eA : numA deck n f = 0 := by unfold numA; rw [if_neg z]
    rw [eA]
    refine (rwhich_bad deck a n cap f w (by simpa using z)).mono ?_
    rintro e w' ⟨rfl, rfl⟩
    exact ⟨rfl, Below.refl _ _⟩

theorem names_far (deck : Int) (a : Option Addr) (n cap : Nat) (w : World) (h : (64 : Int) < (n : Int)) :
    Calls Try.prog 4 #[.slice a n cap, .int .i64 deck] w fun e w' => e = .returned (.bool true) ∧ Below w.heap.size w w' := by
  go_enter Try.func4, Try.ntmps4
  go_wp2_with (go_at_call 8; refine (awake_any _).mono ?_; rintro e w1 ⟨rfl, hb1⟩)
  go_ret; exact ⟨rfl, hb1⟩

set_option maxRecDepth 20000 in
theorem names_near (deck : Int) (a : Option Addr) (n cap : Nat) (f : Nat → Int) (w : World) (hr : Row w a n f) (hc : a = none → n = 0 ∧ cap = 0) (hn : n ≤ 64) :
    Calls Try.prog 4 #[.slice a n cap, .int .i64 deck] w fun e w' => e = .returned (.bool true) ∧ Below w.heap.size w w' := by
  obtain ⟨i0, hi, hz0, hz1, hz2⟩ := info_parts Try.info3
  go_enter Try.func4, Try.ntmps4
  go_wp2_with (first
    | (go_at_call 8; refine (awake_any _).mono ?_; rintro e w1 ⟨rfl, hb1⟩; have hr1 := hr.carry hb1; have hs1 := hb1.size)
    | (go_at_call 14; refine (copy_any _ _ _ f _ hr1 hc hn).mono ?_; rintro e w2 ⟨v, rfl, hown, hb2⟩; have hs2 := hb2.size)
    | (at_builtin; refine wpList_append_lies _ rfl (.tmp 16) (.tmp 17) 24 rfl w1.heap.size 3 i0 (.int .i64 0) 1 8 Try.underlying24 hi hz0 hz1 hz2 rfl (by decide) _ _ _ rfl (hown.alloc _) ⟨w2.heap.size, 0, none⟩ 1 1 [.int .i64 7] rfl rfl (one_new _ _) (one_cell _) (by decide) (by unfold maxLen; omega) (by omega) (by simp; omega) _ rfl ?_; intro g c w3 hown3 hgrow3 hat3 hlt3; obtain ⟨hm1, hm2, hm3, hm4⟩ := mine hown3))
  have hb2' : Below w.heap.size w w2 := hb1.trans (hb2.mono hs1)
  have hb3 : Below w.heap.size w w3 := (hb2'.alloc hb2'.size _).grown hgrow3 (by simp; omega) (fun q e => by have := (hown.lt q e).1; omega)
  have hr3 : Row w3 a n f := hr.carry hb3
  clear hown hown3 hgrow3 hat3 hb1 hb2 hb2' hr1 hr
  have hnc : n ≤ c := by omega
  go_at_call 15
  refine (which_all _ _ _ _ f _ hm1 hnc).mono ?_
  rintro e w4 ⟨rfl, hb4⟩
  have hr4 := hr3.carry hb4
  go_wp2_with fail
  go_at_call 16
  refine (rwhich_all _ _ _ _ f _ hr4).mono ?_
  rintro e w5 ⟨rfl, hb5⟩
  have hr5 := hr4.carry hb5
  have hm5 := (hm1.carry hb4).carry hb5
  go_wp2_with fail
  go_at_call 13
  refine (same_yes _ _ _ _ _ _ _ _ hm5 hr5 (by omega) (fun _ _ => rfl)).mono ?_
  rintro e w7 ⟨rfl, hb7⟩
  have hb34 : Below w3.heap.size w3 w7 := (hb4.trans (hb5.mono hb4.size)).trans (hb7.mono (Nat.le_trans hb4.size hb5.size))
  have hcell := (hb34.cell (p := ⟨g, n, none⟩) hm4).trans hm2
  clear hm1 hm2 hr3 hr4 hr5 hm5 hb4 hb5 hb7
  go_wp2
  go_ret
  exact ⟨rfl, hb3.trans (hb34.mono hb3.size)⟩

theorem names_any (a : Option Addr) (n cap : Nat) (f : Nat → Int) (deck : Int) (w : World) (hr : Row w a n f) (hc : a = none → n = 0 ∧ cap = 0) :
    Calls Try.prog 4 #[.slice a n cap, .int .i64 deck] w fun e w' => e = .returned (.bool true) ∧ Below w.heap.size w w' := by
  by_cases t : n ≤ 64
  · exact names_near deck a n cap f w hr hc t
  · exact names_far deck a n cap w (by omega)
end Go.Proofs.Ytcfjnflicgifjaa
