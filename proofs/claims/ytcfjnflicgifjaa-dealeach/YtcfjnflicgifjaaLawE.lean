/-
  What 'DealEach' of the statements answers: true, for every deck and every number of cards. No condition.
-/
import Derived.Test.YtcfjnflicgifjaaLawW
namespace Go.Proofs.Ytcfjnflicgifjaa
open Go.RowKit

theorem owns_carry {w w' : World} {base : Nat} {e : TypeId} {v : Value} {n : Nat} {xs : List Value} (h : w.ownsRow base e 1 v n xs) (k : Below w.heap.size w w') : w'.ownsRow base e 1 v n xs := by
  have hl := h.lt
  obtain ⟨h1, h2⟩ := h
  refine ⟨h1, h2.imp id ?_⟩
  rintro ⟨g, cap, cur, rfl, hb, hg, r⟩
  exact ⟨g, cap, cur, rfl, hb, (k.block g (hl g rfl).2).trans hg, r⟩

/-- The hand that h deals, in one number. -/
def cod (D n h : Nat) : Nat := code (crd (at_ D h)) n
/-- Those of the first m, as cells. -/
def cods (D n m : Nat) : List Value := (List.range m).map fun j => .int .u64 (cod D n j : Nat)
theorem cods_succ (D n m : Nat) : cods D n m ++ [.int .u64 (cod D n m : Nat)] = cods D n (m + 1) := by simp [cods, List.range_succ]
theorem cods_get (D n m j : Nat) (h : j < m) : (cods D n m)[j]? = some (.int .u64 (cod D n j : Nat)) := by simp [cods, h]
theorem cods_len (D n m : Nat) : (cods D n m).length = m := by simp [cods]

theorem seen_form {w : World} {base : Nat} {v : Value} {D n m : Nat} (h : w.ownsRow base 22 1 v m (cods D n m)) : ∃ a cap, v = .slice a m cap ∧ ∀ j, j < m → ∃ g, a = some ⟨g, 0, none⟩ ∧ g < w.heap.size ∧ w.cell? ⟨g, j, none⟩ = some (.int .u64 (cod D n j : Nat)) := by
  rcases id h.2 with ⟨rfl, rfl⟩ | ⟨g, cap, cur, rfl, hb, hg, r⟩
  · exact ⟨none, 0, rfl, fun j hj => by omega⟩
  · refine ⟨some ⟨g, 0, none⟩, cap, rfl, fun j hj => ⟨g, rfl, (h.lt g rfl).2, ?_⟩⟩
    rw [h.cellAt j (by omega), cods_get D n m j hj]

theorem one_newU (w : World) (x : Int) : ∀ j u, ([.int .u64 x] : List Value)[j]? = some u → (w.alloc (.cells #[.int .u64 x] 22)).cell? ((⟨w.heap.size, 0, none⟩ : Addr).add j) = some u := by
  intro j u hj
  match j, hj with
  | 0, hj => simp at hj; subst hj; simp [Addr.add]
theorem one_cellU (x : Int) : ∀ u ∈ ([.int .u64 x] : List Value), u.oneCell' = true := by
  intro u hu; simp at hu; subst hu; rfl
theorem Try.info22 : (Try.prog.info? 22).map (fun i => (i.zero, i.size, i.bytes)) = some (some (.int .u64 0), 1, 8) := by kernel_rfl

theorem each_no (deck n : Int) (w : World) (hr : (refH deck n == 0) = false) :
    Calls Try.prog 7 #[.int .i64 deck, .int .i64 n] w fun e w' => e = .returned (.bool true) ∧ Below w.heap.size w w' := by
  have h' : (refH deck n != 0) = true := by simpa using hr
  go_enter Try.func7, Try.ntmps7
  go_wp2_with (first
    | (go_at_call 8; refine (awake_any _).mono ?_; rintro e w1 ⟨rfl, hb1⟩)
    | (go_at_call 11; refine (hands_no _ _ _ hr).mono ?_; rintro e w' ⟨rfl, hw⟩; obtain rfl := hw.symm))
  go_ret; exact ⟨rfl, hb1⟩

theorem each_many (D n : Nat) (w : World) (hg : Good D n) (h : 400 < P D n) :
    Calls Try.prog 7 #[.int .i64 D, .int .i64 n] w fun e w' => e = .returned (.bool true) ∧ Below w.heap.size w w' := by
  have h' : (400 : Int) < (P D n : Int) := by omega
  go_enter Try.func7, Try.ntmps7
  go_wp2_with (first
    | (go_at_call 8; refine (awake_any _).mono ?_; rintro e w1 ⟨rfl, hb1⟩)
    | (go_at_call 11; refine (hands_yes _ _ _ hg).mono ?_; rintro e w' ⟨rfl, hw⟩; obtain rfl := hw.symm))
  go_ret; exact ⟨rfl, hb1⟩

set_option maxRecDepth 20000 in
theorem each_few (D n : Nat) (w : World) (hg : Good D n) (hp : P D n ≤ 400) :
    Calls Try.prog 7 #[.int .i64 D, .int .i64 n] w fun e w' => e = .returned (.bool true) ∧ Below w.heap.size w w' := by
  obtain ⟨i0, hi, hz0, hz1, hz2⟩ := info_parts Try.info22
  obtain ⟨⟨hd0, hd1, hn0, hn1, hnd⟩, hfew⟩ := id hg
  have HI : Hid (∀ j k, j < k → k < P D n → cod D n j ≠ cod D n k) := fun j k h1 h2 e => by
    have h3 := fun H => isHand_deal (H := H) hg
    have := hand_inj (by omega) h2 (code_inj n (fun i hi => by have := (h3 j).lt i hi; omega) (fun i hi => by have := (h3 k).lt i hi; omega) e)
    omega
  go_enter Try.func7, Try.ntmps7
  go_wp2_with (first
    | (go_at_call 8; refine (awake_any _).mono ?_; rintro e w1 ⟨rfl, hb1⟩)
    | (go_at_call 11; refine (hands_yes _ _ _ hg).mono ?_; rintro e w' ⟨rfl, hw⟩; obtain rfl := hw.symm))
  generalize hgP : P D n = p at *
  clear hgP
  go_loopw [7, 8] (fun v i wr => ∃ m : Nat, m ≤ p ∧ i = .int .u64 m ∧ wr.ownsRow w1.heap.size 22 1 v m (cods D n m) ∧ Below w1.heap.size w1 wr) (fun _ i _ => p - (intOf i).toNat)
  case atStart => exact ⟨0, Nat.zero_le _, rfl, World.ownsRow_nil _ _ _ _, Below.refl _ _⟩
  case round =>
    obtain ⟨m, hm, rfl, hown, hb2⟩ := hrel
    obtain ⟨sa, sc, rfl, hs⟩ := seen_form hown
    have HSn : Hid (∀ j, j < m → ∃ g, sa = some ⟨g, 0, none⟩ ∧ g < wr.heap.size ∧ wr.cell? ⟨g, j, none⟩ = some (.int .u64 (cod D n j : Nat))) := hs
    clear hs
    by_cases hlt : m < p
    · have hh := isHand_deal (H := m) hg
      go_wp2_with fail
      go_at_call 9
      refine (deal_yes m D n _ hg (by omega)).mono ?_
      rintro e w3 ⟨b, rfl, hb, o3, hb3⟩
      have HC : Hid (∀ k, k < n → w3.cell? ⟨b, k, none⟩ = some (.int .i64 (crd (at_ D m) k : Nat))) := fun k hk => (o3.2 k hk).1
      have HL : Hid (∀ k, k < n → crd (at_ D m) k < 64) := fun k hk => by have := hh.lt k hk; omega
      have hown3 := owns_carry hown hb3
      have hb4 : Below w1.heap.size w1 w3 := hb2.trans (hb3.mono hb2.size)
      have HS3 : Hid (∀ j, j < m → ∃ g, sa = some ⟨g, 0, none⟩ ∧ w3.cell? ⟨g, j, none⟩ = some (.int .u64 (cod D n j : Nat))) := fun j hj => by
        obtain ⟨g, e, h1, h2⟩ := HSn.out j hj
        exact ⟨g, e, (hb3.cell (p := ⟨g, j, none⟩) h1).trans h2⟩
      clear hown hb2 hb3 hg hh HSn o3
      go_wp2
      go_loop [11, 12] (fun s i => ∃ k : Nat, k ≤ n ∧ i = .int .i64 k ∧ s = .int .u64 (code (crd (at_ D m)) k : Nat)) (fun _ i => n - (intOf i).toNat)
      case atStart => exact ⟨0, Nat.zero_le _, rfl, rfl⟩
      case round =>
        obtain ⟨k, hk, rfl, rfl⟩ := hrel
        by_cases hlt2 : k < n
        · have hcell := HC.out k hlt2
          have h1 := HL.out k hlt2
          have h2 : code (crd (at_ D m)) k < 64 ^ 7 := Nat.lt_of_lt_of_le (code_lt k (fun i hi => HL.out i (by omega))) (Nat.pow_le_pow_right (by decide) (by omega))
          have E : Hid (code (crd (at_ D m)) (k + 1) = code (crd (at_ D m)) k * 64 + crd (at_ D m) k) := rfl
          clear hown3
          generalize hgc : code (crd (at_ D m)) k = cc at *
          generalize hgd : crd (at_ D m) k = cd at *
          clear hgc hgd
          go_wp2
          go_round
          case rel => exact ⟨k + 1, by omega, by go_num, by rw [E.out]; go_num⟩
          case measure => simp [intOf]; omega
        · obtain rfl : k = n := by omega
          have hcod : code (crd (at_ D m)) k = cod D k m := rfl
          rw [hcod]
          have h2 : cod D k m < 64 ^ 8 := Nat.lt_of_lt_of_le (code_lt k (fun i hi => HL.out i (by omega))) (Nat.pow_le_pow_right (by decide) (by omega))
          clear hcod HC HL
          go_wp2
          go_loop [13] (fun i => ∃ j : Nat, j ≤ m ∧ i = .int .i64 j) (fun i => m - (intOf i).toNat)
          case atStart => exact ⟨0, Nat.zero_le _, rfl⟩
          case round =>
            obtain ⟨j, hj, rfl⟩ := hrel
            by_cases hlt3 : j < m
            · obtain ⟨g, rfl, hcell⟩ := HS3.out j hlt3
              have g1 : (((cod D k j : Nat) : Int) == ((cod D k m : Nat) : Int)) = false := by have := HI.out j m hlt3 hlt; simp; omega
              clear hown3
              go_wp2
              go_round
              case rel => exact ⟨j + 1, by omega, by go_num⟩
              case measure => simp [intOf]; omega
            · obtain rfl : j = m := by omega
              have hsz := hb4.size
              clear HS3 HI
              go_wp2_with (at_builtin; refine wpList_append_own _ rfl _ _ 40 rfl w1.heap.size 22 i0 (.int .u64 0) 1 8 Try.underlying40 hi hz0 hz1 hz2 rfl (by decide) _ _ _ rfl (hown3.alloc _) ⟨w3.heap.size, 0, none⟩ 1 1 [.int .u64 (cod D k j : Nat)] rfl rfl (one_newU _ _) (one_cellU _) (by unfold maxLen; omega) (by omega) (by simp; omega) ?_; intro v' w4 hown' hgrow _)
              rw [cods_succ] at hown'
              have hb5 : Below w1.heap.size w1 w4 := (hb4.alloc hb4.size _).grown hgrow (by simp; omega) (fun q e => (hown3.lt q e).1)
              clear hgrow hown3 hb4
              go_wp2
              go_roundw
              case rel => exact ⟨j + 1, by omega, by go_num, hown', hb5⟩
              case measure => simp [intOf]; omega
    · obtain rfl : m = p := by omega
      clear HSn hown HI
      go_wp2
      go_ret
      exact ⟨rfl, hb1.trans (hb2.mono hb1.size)⟩

theorem each_any (deck n : Int) (w : World) :
    Calls Try.prog 7 #[.int .i64 deck, .int .i64 n] w fun e w' => e = .returned (.bool true) ∧ Below w.heap.size w w' := by
  by_cases z : refH deck n = 0
  · obtain ⟨D, m, rfl, rfl, hg⟩ := good_of z
    by_cases t : P D m ≤ 400
    · exact each_few D m w hg t
    · exact each_many D m w hg (by omega)
  · exact each_no deck n w (by simpa using z)
end Go.Proofs.Ytcfjnflicgifjaa
