/-
  What 'Which' of the reference answers, for any cards and any deck. Condition: the cards lie in memory.
-/
import Derived.Test.YtcfjnflicgifjaaRowi
namespace Go.Proofs.Ytcfjnflicgifjaa
open Go.RowKit

theorem rwhich_bad (deck : Int) (a : Option Addr) (n cap : Nat) (f : Nat → Int) (w : World) (h : (refH deck n == 0) = false) :
    Calls Try.prog 16 #[.slice a n cap, .int .i64 deck] w fun e w' => e = .returned (.tuple #[.int .u64 0, .int .i64 (refW deck n f)]) ∧ w' = w := by
  have h' : (refH deck n != 0) = true := by simpa using h
  rw [refW_bad h]
  go_enter Try.func16, Try.ntmps16
  go_wp2_with (go_at_call 12; refine (rhands_no _ _ _ h).mono ?_; rintro e w' ⟨rfl, hw⟩; obtain rfl := hw.symm)
  go_ret2
  exact ⟨rfl, rfl⟩

/-- The number that cards are told as, none of which is refused. -/
def numW (D n : Nat) (f : Nat → Int) : Nat := if refW D n f = 0 then dig D (rk fun k => (f k).toNat) n else 0

set_option maxRecDepth 20000 in
theorem rwhich_good (D : Nat) (a : Option Addr) (n cap : Nat) (f : Nat → Int) (w : World) (hr : Row w a n f) (hg : Good D n) :
    Calls Try.prog 16 #[.slice a n cap, .int .i64 D] w fun e w' => e = .returned (.tuple #[.int .u64 (numW D n f), .int .i64 (refW D n f)]) ∧ Below w.heap.size w w' := by
  obtain ⟨⟨hd0, hd1, hn0, hn1, hnd⟩, _⟩ := id hg
  have E1 : Hid (refW D n f = if ∃ k, k < n ∧ (f k < 0 ∨ (D : Int) ≤ f k) then 8 else if ∃ k, k < n ∧ ∃ j, j < k ∧ f j = f k then 5 else 0) := refW_good hg
  obtain ⟨b, off, rfl, hb, hcell⟩ := hr (by omega)
  have HC : Hid (∀ k, k < n → w.cell? ⟨b, off + k, none⟩ = some (.int .i64 (f k))) := hcell
  clear hcell hr
  have HN : Hid (∀ x : Int, x ≠ 0 → refW D n f = x → numW D n f = 0) := fun x hx e => by unfold numW; rw [if_neg (by rw [e]; exact hx)]
  go_enter Try.func16, Try.ntmps16
  go_wp2_with (go_at_call 12; refine (rhands_yes _ _ _ hg).mono ?_; rintro e w' ⟨rfl, hw⟩; obtain rfl := hw.symm)
  clear hg
  go_loop [8] (fun i => ∃ k : Nat, k ≤ n ∧ i = .int .i64 k ∧ Hid (∀ j, j < k → 0 ≤ f j ∧ f j < D)) (fun i => n - (intOf i).toNat)
  case atStart => exact ⟨0, Nat.zero_le _, rfl, fun j hj => absurd hj (Nat.not_lt_zero _)⟩
  case round =>
    obtain ⟨k, hk, rfl, hall⟩ := hrel
    by_cases hlt : k < n
    · have hcell := HC.out k hlt
      by_cases c1 : f k < 0
      · have E : Hid (refW D n f = 8) := by show _ = _; rw [E1.out, if_pos ⟨k, hlt, .inl c1⟩]
        have N : Hid (numW D n f = 0) := HN.out 8 (by decide) E.out
        clear HN
        go_wp2
        go_ret2
        rw [E.out, N.out]
        exact ⟨rfl, Below.refl _ _⟩
      by_cases c2 : (D : Int) ≤ f k
      · have E : Hid (refW D n f = 8) := by show _ = _; rw [E1.out, if_pos ⟨k, hlt, .inr c2⟩]
        have N : Hid (numW D n f = 0) := HN.out 8 (by decide) E.out
        clear HN
        go_wp2
        go_ret2
        rw [E.out, N.out]
        exact ⟨rfl, Below.refl _ _⟩
      go_wp2
      go_round
      case rel =>
        refine ⟨k + 1, by omega, by go_num, fun j hj => ?_⟩
        rcases Nat.lt_or_eq_of_le (Nat.le_of_lt_succ hj) with h | rfl
        · exact hall.out j h
        · exact ⟨by omega, by omega⟩
      case measure => simp [intOf]; omega
    · obtain rfl : k = n := by omega
      have E2 : Hid (refW D k f = if ∃ i, i < k ∧ ∃ j, j < i ∧ f j = f i then 5 else 0) := by
        show _ = _
        rw [E1.out, if_neg]
        rintro ⟨j, hj, h⟩
        have := hall.out j hj
        omega
      have HN0 : Hid (refW D k f = 0 → numW D k f = dig D (rk fun k => (f k).toNat) k) := fun e => by unfold numW; rw [if_pos e]
      obtain ⟨c, hc⟩ : ∃ c : Nat → Nat, c = fun k => (f k).toNat := ⟨_, rfl⟩
      rw [← hc] at HN0
      have HF : Hid (∀ j, j < k → f j = (c j : Nat) ∧ c j < D) := fun j hj => by
        have := hall.out j hj
        rw [hc]
        exact ⟨by show f j = ((f j).toNat : Int); omega, by show (f j).toNat < D; omega⟩
      clear E1 hall hc
      go_wp2
      go_loopw [10, 11, 12] (fun s p i wr => ∃ q : Nat, q ≤ k ∧ i = .int .i64 q ∧ s = .int .u64 (dig D (rk c) q : Nat) ∧ p = .int .u64 (P D q : Nat) ∧ Gn wr w.heap.size c q ∧ Below w.heap.size w wr ∧ Hid (∀ i, i < q → ∀ j, j < i → c j ≠ c i)) (fun _ _ i _ => k - (intOf i).toNat)
      case atStart => exact ⟨0, Nat.zero_le _, rfl, rfl, rfl, gn_new _ _ _, (Below.refl _ _).alloc (Nat.le_refl _) _, fun j hj => absurd hj (Nat.not_lt_zero _)⟩
      case round =>
        obtain ⟨q, hq, rfl, rfl, rfl, hgn, p3, hall⟩ := hrel
        by_cases hlt2 : q < k
        · obtain ⟨hf1, hf2⟩ := HF.out q hlt2
          have hcell := (p3.cell (p := ⟨b, off + q, none⟩) hb).trans (HC.out q hlt2)
          rw [hf1] at hcell
          obtain ⟨c1, f1⟩ := hgn.2 (c q) (by omega)
          have HS : Hid (∀ y, y < 64 → wr.cell? ⟨w.heap.size, y, none⟩ = some (.bool (gone c q y))) := fun y hy => (hgn.2 y hy).1
          have HF1 : Hid (f q = (c q : Nat)) := hf1
          clear hf1
          cases eg : gone c q (c q) with
          | true =>
            rw [eg] at c1
            obtain ⟨j, hj, ej⟩ := (gone_iff c (c q) q).1 eg
            have E : Hid (refW D k f = 5) := by
              show _ = _
              rw [E2.out, if_pos ⟨q, hlt2, j, hj, by rw [HF1.out, (HF.out j (by omega)).1, ej]⟩]
            have N : Hid (numW D k f = 0) := HN.out 5 (by decide) E.out
            clear HN HN0 eg ej hgn
            go_wp2
            go_ret2
            rw [E.out, N.out]
            exact ⟨rfl, p3⟩
          | false =>
            rw [eg] at c1
            have hun : ∀ j, j < q → c j ≠ c q := fun j hj e => by
              rw [(gone_iff c (c q) q).2 ⟨j, hj, e⟩] at eg; cases eg
            have hall2 : Hid (∀ i, i < q + 1 → ∀ j, j < i → c j ≠ c i) := fun i hi => by
              rcases Nat.lt_or_eq_of_le (Nat.le_of_lt_succ hi) with h | rfl
              · exact hall.out i h
              · exact hun
            have hrk := (rk_free (c := c) (i := q) hall.out).1
            have hr2 : rk c q < 64 := by rw [← hrk]; have := free_le c q (c q); omega
            have hl : Hid (∀ i, i < q + 1 → rk c i < 64) := fun i hi => by
              have := (HF.out i (by omega)).2
              unfold rk; omega
            have hdl : dig D (rk c) (q + 1) < 64 ^ 8 := Nat.lt_of_lt_of_le (dig_lt hd1 (q + 1) hl.out) (Nat.pow_le_pow_right (by decide) (by omega))
            have hpl := P_big hd1 (n := q) (by omega)
            have hpl2 := P_big hd1 (n := q + 1) (by omega)
            have ed : dig D (rk c) (q + 1) = dig D (rk c) q + rk c q * P D q := rfl
            have ep : P D (q + 1) = P D q * (D - q) := rfl
            have e0 : ((D : Int) - (q : Int)) = ((D - q : Nat) : Int) := by omega
            have ex : ((rk c q : Nat) : Int) * (P D q : Nat) = (rk c q * P D q : Nat) := by rw [Int.natCast_mul]
            have ey : ((P D q : Nat) : Int) * ((D - q : Nat) : Int) = (P D (q + 1) : Nat) := by rw [ep, Int.natCast_mul]
            have hgn2 := hgn.mark rfl
            have p4 := p3.setCell (p := ⟨w.heap.size, c q, none⟩) (Nat.le_refl _) (.bool true)
            have A1 : Hid (Gn _ _ _ _ ∧ Below _ _ _) := ⟨hgn2, p4⟩
            have hd : D - q ≤ 64 := by omega
            rw [ed] at hdl
            have ED : Hid (dig D (rk c) (q + 1) = dig D (rk c) q + rk c q * P D q) := ed
            have HRK : Hid (free c q (c q) = rk c q) := hrk
            generalize hgs : dig D (rk c) q = s at *
            generalize hgp2 : P D (q + 1) = p2 at *
            generalize hgm : rk c q * P D q = m at *
            generalize hgp : P D q = p at *
            generalize hgr : rk c q = r at *
            generalize hgd : D - q = d at *
            have HP : Hid (P D (q + 1) = p2) := hgp2
            clear hgs hgp2 hgm hgp hgr hgd hgn hgn2 p4 hall hl eg ed ep hrk HN
            go_wp2
            go_loop [13, 14] (fun u i => ∃ y : Nat, y ≤ c q ∧ i = .int .i64 y ∧ ∃ z : Nat, u = .int .u64 z ∧ z = free c q y ∧ z ≤ y) (fun _ i => c q - (intOf i).toNat)
            case atStart => exact ⟨0, Nat.zero_le _, rfl, 0, rfl, rfl, Nat.zero_le _⟩
            case round =>
              obtain ⟨y, hy, rfl, z, rfl, hz, hzy⟩ := hrel
              have HZ : Hid (z = free c q y) := hz
              clear hz
              by_cases hlt3 : y < c q
              · have hc2 := HS.out y (by omega)
                cases eg : gone c q y with
                | true =>
                  rw [eg] at hc2
                  have E : Hid (z = free c q (y + 1)) := by show _ = _; rw [free_succ, if_pos eg, HZ.out, Nat.add_zero]
                  clear eg
                  go_wp2
                  go_round
                  case rel => exact ⟨y + 1, by omega, by go_num, z, rfl, E.out, by omega⟩
                  case measure => simp [intOf]; omega
                | false =>
                  rw [eg] at hc2
                  have E : Hid (z + 1 = free c q (y + 1)) := by show _ = _; rw [free_succ, if_neg (by rw [eg]; decide), HZ.out]
                  clear eg
                  go_wp2
                  go_round
                  case rel => exact ⟨y + 1, by omega, by go_num, z + 1, by go_num, E.out, by omega⟩
                  case measure => simp [intOf]; omega
              · have hyq : y = c q := by omega
                have hzr : z = r := by rw [HZ.out, hyq]; exact HRK.out
                subst hzr
                subst hyq
                clear HZ HRK HS
                go_wp2
                go_roundw
                case rel => exact ⟨q + 1, by omega, by go_num, by rw [ED.out]; go_num, by rw [HP.out], A1.out.1, A1.out.2, hall2⟩
                case measure => simp [intOf]; omega
        · obtain rfl : q = k := by omega
          have E : Hid (refW D q f = 0) := by
            show _ = _
            rw [E2.out, if_neg]
            rintro ⟨i, hi, j, hj, e⟩
            refine hall.out i hi j hj ?_
            have h1 := (HF.out i hi).1
            have h2 := (HF.out j (by omega)).1
            omega
          have N : Hid (numW D q f = dig D (rk c) q) := HN0.out E.out
          clear HN HN0 hgn
          go_wp2
          go_ret2
          rw [E.out, N.out]
          exact ⟨rfl, p3⟩
end Go.Proofs.Ytcfjnflicgifjaa
