/-
  What 'Deal' of the reference answers, for every hash, every deck and every number of cards. No condition.
-/
import Derived.Test.YtcfjnflicgifjaaWalkD
namespace Go.Proofs.Ytcfjnflicgifjaa
open Go.RowKit

theorem rdeal_no (h deck n : Int) (w : World) (hr : (refH deck n == 0) = false) :
    Calls Try.prog 10 #[.int .u64 h, .int .i64 deck, .int .i64 n] w fun e w' => e = .returned (.tuple #[.slice none 0 0, .int .i64 (refH deck n)]) ∧ w' = w := by
  have h' : (refH deck n != 0) = true := by simpa using hr
  go_enter Try.func10, Try.ntmps10
  go_wp2_with (go_at_call 12; refine (rhands_no _ _ _ hr).mono ?_; rintro e w' ⟨rfl, hw⟩; obtain rfl := hw.symm)
  go_ret2
  exact ⟨rfl, rfl⟩

/-- The first n of f, as cells. -/
def cellsOf (f : Nat → Int) (n : Nat) : List Value := (List.range n).map fun j => .int .i64 (f j)
theorem cellsOf_succ (f : Nat → Int) (n : Nat) : cellsOf f n ++ [.int .i64 (f n)] = cellsOf f (n + 1) := by simp [cellsOf, List.range_succ]
theorem cellsOf_get (f : Nat → Int) (n j : Nat) (h : j < n) : (cellsOf f n)[j]? = some (.int .i64 (f j)) := by simp [cellsOf, h]

/-- A slice that was appended to: what it reads. -/
theorem row_owned {w : World} {base : Nat} {v : Value} {n : Nat} {f : Nat → Int} (h : w.ownsRow base 3 1 v n (cellsOf f n)) : ∃ a cap, v = .slice a n cap ∧ Row w a n f := by
  rcases id h.2 with ⟨rfl, rfl⟩ | ⟨g, cap, cur, rfl, hb, hg, r⟩
  · exact ⟨none, 0, rfl, fun h => by omega⟩
  · refine ⟨some ⟨g, 0, none⟩, cap, rfl, fun hn => ⟨g, 0, rfl, (h.lt g rfl).2, fun k hk => ?_⟩⟩
    rw [Nat.zero_add, h.cellAt k (by omega), cellsOf_get f n k hk]

theorem one_new (w : World) (x : Int) : ∀ j u, ([.int .i64 x] : List Value)[j]? = some u → (w.alloc (.cells #[.int .i64 x] 3)).cell? ((⟨w.heap.size, 0, none⟩ : Addr).add j) = some u := by
  intro j u hj
  match j, hj with
  | 0, hj => simp at hj; subst hj; simp [Addr.add]
theorem one_newS (w : World) (x : Int) (s : Nat) (hs : s = w.heap.size) : ∀ j u, ([.int .i64 x] : List Value)[j]? = some u → (w.alloc (.cells #[.int .i64 x] 3)).cell? ((⟨s, 0, none⟩ : Addr).add j) = some u := by
  subst hs; exact one_new w x
theorem one_cell (x : Int) : ∀ u ∈ ([.int .i64 x] : List Value), u.oneCell' = true := by
  intro u hu; simp at hu; subst hu; rfl

/-- The marks: which cards are dealt. -/
def Gn (w : World) (g : Nat) (c : Nat → Nat) (k : Nat) : Prop :=
  g < w.heap.size ∧ ∀ y, y < 64 → w.cell? ⟨g, y, none⟩ = some (.bool (gone c k y)) ∧ w.frozen? ⟨g, y, none⟩ = false

theorem gn_new (w : World) (T : TypeId) (c : Nat → Nat) : Gn (w.alloc (.cells (List.replicate 64 (Value.bool false)).toArray T)) w.heap.size c 0 := by
  refine ⟨by simp, fun y hy => ⟨?_, ?_⟩⟩
  · rw [World.cell?_alloc_new, List.getElem?_toArray, List.getElem?_replicate, if_pos hy]
    rfl
  · exact World.frozen?_alloc_at _ _ _ _ rfl
theorem Gn.carry {w w' : World} {g k : Nat} {c : Nat → Nat} (h : Gn w g c k) (b : Below (g + 1) w w') : Gn w' g c k :=
  ⟨Nat.lt_of_lt_of_le h.1 b.size, fun y hy => ⟨(b.cell (p := ⟨g, y, none⟩) (Nat.lt_succ_self _)).trans (h.2 y hy).1, (b.frozen (p := ⟨g, y, none⟩) (Nat.lt_succ_self _)).trans (h.2 y hy).2⟩⟩
theorem Gn.mark {w : World} {g k q : Nat} {c : Nat → Nat} (h : Gn w g c k) (hq : c k = q) : Gn (w.setCell ⟨g, q, none⟩ (.bool true)) g c (k + 1) := by
  refine ⟨by simpa using h.1, fun y hy => ⟨?_, by simpa using (h.2 y hy).2⟩⟩
  rw [gone_succ, hq]
  by_cases e : y = q
  · subst e
    rw [World.cell?_setCell_same _ _ _ (h.2 y hy).1]
    simp
  · rw [World.cell?_setCell_other]
    · rw [(h.2 y hy).1, show (q == y) = false by simpa using fun t => e t.symm, Bool.or_false]
    · intro t; exact e (Addr.mk.inj t).2.1.symm

set_option maxRecDepth 20000 in
theorem rdeal_yes (H D n : Nat) (w : World) (hg : Good D n) (hH : H < 18446744073709551616) :
    Calls Try.prog 10 #[.int .u64 H, .int .i64 D, .int .i64 n] w fun e w' => ∃ a cap, e = .returned (.tuple #[.slice a n cap, .int .i64 0]) ∧ Row w' a n (hand D H) ∧ Below w.heap.size w w' := by
  obtain ⟨i0, hi, hz0, hz1, hz2⟩ := info_parts Try.info3
  obtain ⟨⟨hd0, hd1, hn0, hn1, hnd⟩, _⟩ := id hg
  go_enter Try.func10, Try.ntmps10
  go_wp2_with (first
    | (go_at_call 12; refine (rhands_yes _ _ _ hg).mono ?_; rintro e w' ⟨rfl, hw⟩; obtain rfl := hw.symm))
  clear hg
  go_loopw [0, 11, 12] (fun h v i wr => ∃ k : Nat, k ≤ n ∧ i = .int .i64 k ∧ h = .int .u64 (H / P D k : Nat) ∧ wr.ownsRow (w.heap.size + 1) 3 1 v k (cellsOf (hand D H) k) ∧ Gn wr w.heap.size (crd (at_ D H)) k ∧ Below w.heap.size w wr) (fun _ _ i _ => n - (intOf i).toNat)
  case atStart => exact ⟨0, Nat.zero_le _, rfl, by simp [P], World.ownsRow_nil _ _ _ _, gn_new _ _ _, (Below.refl _ _).alloc (Nat.le_refl _) _⟩
  case round =>
    obtain ⟨k, hk, rfl, rfl, hown, hgn, p3⟩ := hrel
    obtain ⟨va, vc, rfl, hrow⟩ := row_owned hown
    by_cases hlt : k < n
    · have hat := at_lt (D := D) (H := H) (i := k) (by omega)
      have hx : H / P D k < 18446744073709551616 := Nat.lt_of_le_of_lt (Nat.div_le_self _ _) hH
      have hy : H / P D (k + 1) < 18446744073709551616 := Nat.lt_of_le_of_lt (Nat.div_le_self _ _) hH
      have hq : H / P D (k + 1) = H / P D k / (D - k) := by rw [P_succ, Nat.div_div_eq_div_mul]
      have e0 : ((D : Int) - (k : Int)) = ((D - k : Nat) : Int) := by omega
      have e3 : ((H / P D k : Nat) : Int).tmod ((D - k : Nat) : Int) = (at_ D H k : Nat) := (Int.ofNat_tmod _ _).symm
      have e4 : ((H / P D k : Nat) : Int).tdiv ((D - k : Nat) : Int) = (H / P D (k + 1) : Nat) := by rw [hq]; exact (Int.ofNat_tdiv _ _).symm
      have hY : crd (at_ D H) k < D := crd_lt hat
      have HF : Hid (free (crd (at_ D H)) k (crd (at_ D H) k) = at_ D H k) := by
        show _ = _
        rw [(rk_free (c := crd (at_ D H)) (i := k) (fun j _ l hl => (crd_fresh _ hl).symm)).1, rk_crd]
      have HG : Hid (gone (crd (at_ D H)) k (crd (at_ D H) k) = false) := gone_no (fun i hi => (crd_fresh _ hi).symm)
      have hd2 : 1 ≤ D - k := by omega
      have hd3 : D - k ≤ 64 := by omega
      have HV : Hid (hand D H k = (crd (at_ D H) k : Nat)) := rfl
      generalize hgx : H / P D k = x at *
      generalize hgy : H / P D (k + 1) = y at *
      generalize hgd : D - k = d at *
      generalize hgt : at_ D H k = t at *
      have HYY : Hid (H / P D (k + 1) = y) := hgy
      generalize hgc : crd (at_ D H) = c at *
      clear hgx hgy hgd hgt hgc hq hrow
      go_wp2
      go_loop [11, 13, 14] (fun v s i => v = .slice va k vc ∧ ∃ q : Nat, q ≤ c k ∧ i = .int .i64 q ∧ ∃ z : Nat, s = .int .u64 z ∧ z + free c k q = t) (fun _ _ i => D - (intOf i).toNat)
      case atStart => exact ⟨rfl, 0, Nat.zero_le _, rfl, t, rfl, rfl⟩
      case round =>
        obtain ⟨rfl, q, hq, rfl, z, rfl, hz⟩ := hrel
        have HZ : Hid (z + free c k q = t) := hz
        obtain ⟨c1, f1⟩ := hgn.2 q (by omega)
        have hqD : q < D := by omega
        have hzt : z < 64 := by omega
        have hfm := free_mono c k q (c k - q)
        rw [show q + (c k - q) = c k by omega, HF.out] at hfm
        clear hz
        by_cases hqY : q = c k
        · subst hqY
          have z0 : z = 0 := by have := HZ.out; have := HF.out; omega
          subst z0
          rw [HG.out] at c1
          have hown2 := ownsRow_setCell_below hown (a := ⟨w.heap.size, c k, none⟩) (Nat.lt_succ_self _) (.bool true)
          have hgn2 := hgn.mark rfl
          have p4 := p3.setCell (p := ⟨w.heap.size, c k, none⟩) (Nat.le_refl _) (.bool true)
          have A1 : Hid (World.ownsRow _ _ _ _ _ _ _) := hown2
          have A2 : Hid (Gn _ _ _ _) := hgn2
          have A3 : Hid (Below _ _ _) := p4
          have hsz : w.heap.size + 1 ≤ wr.heap.size := hgn.1
          clear hown hgn p3 hown2 hgn2 p4 HF hfm
          go_wp2_with (at_builtin; refine wpList_append_own _ rfl _ _ 24 rfl (w.heap.size + 1) 3 i0 (.int .i64 0) 1 8 Try.underlying24 hi hz0 hz1 hz2 rfl (by decide) _ _ _ rfl (A1.out.alloc _) ⟨wr.heap.size, 0, none⟩ 1 1 [.int .i64 (c k : Nat)] rfl rfl (one_newS _ _ _ (by simp)) (one_cell _) (by unfold maxLen; omega) (by omega) (by simp; omega) ?_; intro v' w4 hown' hgrow _)
          rw [← HV.out, cellsOf_succ] at hown'
          have b5 : Below (w.heap.size + 1) (wr.setCell ⟨w.heap.size, c k, none⟩ (.bool true)) w4 := ((Below.refl _ _).alloc (by simpa using hsz) _).grown hgrow (by simp; omega) (fun q e => (A1.out.lt q e).1)
          have hgn4 := A2.out.carry b5
          have p5 := A3.out.trans (b5.mono (Nat.le_succ _))
          clear hgrow A1 A2 A3 b5
          go_wp2
          go_roundw
          case rel => exact ⟨k + 1, by omega, by go_num, by rw [HYY.out], hown', hgn4, p5⟩
          case measure => simp [intOf]; omega
        · have hlq : q < c k := by omega
          have hf1 := free_mono c k (q + 1) (c k - (q + 1))
          rw [show q + 1 + (c k - (q + 1)) = c k by omega, HF.out] at hf1
          cases eg : gone c k q with
          | true =>
            rw [eg] at c1
            have E : Hid (z + free c k (q + 1) = t) := by show _ = _; rw [free_succ, if_pos eg]; exact HZ.out
            clear hf1 hfm eg
            go_wp2
            go_round
            case rel => exact ⟨rfl, q + 1, by omega, by go_num, z, rfl, E.out⟩
            case measure => simp [intOf]; omega
          | false =>
            rw [eg] at c1
            rw [free_succ, if_neg (by rw [eg]; decide)] at hf1
            have E : Hid (z - 1 + free c k (q + 1) = t) := by show _ = _; rw [free_succ, if_neg (by rw [eg]; decide)]; have := HZ.out; omega
            have hz1 : 1 ≤ z := by have := HZ.out; omega
            obtain ⟨y1, rfl⟩ : ∃ y1, z = y1 + 1 := ⟨z - 1, by omega⟩
            have g1 : (((y1 + 1 : Nat) : Int) == 0) = false := by simp; omega
            clear hf1 hfm eg
            go_wp2
            go_round
            case rel => exact ⟨rfl, q + 1, by omega, by go_num, y1, by go_num, E.out⟩
            case measure => simp [intOf]; omega
    · obtain rfl : k = n := by omega
      clear hown hgn
      go_wp2
      go_ret2
      exact ⟨_, _, rfl, hrow, p3⟩
end Go.Proofs.Ytcfjnflicgifjaa
