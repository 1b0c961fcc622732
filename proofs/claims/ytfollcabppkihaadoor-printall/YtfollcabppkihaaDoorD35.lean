/-
  What the reference joins a list to. Condition: the list lies in memory.
  What 'digits' and 'list' of the reference answer, and how long that is. Condition: the list lies in memory.
-/
import Derived.Test.YtfollcabppkihaaDoorD22
import Derived.Test.YtfollcabppkihaaDoorD8
import Derived.Test.YtfollcabppkihaaDoorD34
import Derived.Test.YtfollcabppkihaaDoorD20
import Derived.Test.YtfollcabppkihaaDoorD10
namespace Go.Proofs.YtfollcabppkihaaDoor
open Go.RowKit Go.Lib

theorem goodS_sizes {L : List ByteArray} (h : goodS L = true) : L.length ≤ 8 ∧ ∀ k, k < L.length → (gt L k).size ≤ 64 := by
  have h' : L = [mk [42]] ∨ Good L := Classical.byContradiction fun hn => by rw [goodS_no hn] at h; cases h
  clear h
  rcases h' with h | h
  · subst h
    refine ⟨by decide, fun k hk => ?_⟩
    obtain rfl : k = 0 := by simp at hk; omega
    decide
  · exact ⟨h.1, fun k hk => word_short (h.2 k hk).1⟩

theorem join_cases (L : List ByteArray) : (goodS L = false → joinB L = mk []) ∧ (L = [] → joinB L = mk [45]) ∧ (L ≠ [] → goodS L = true → joinB L = mk (join (L.map (·.data.toList)) [44])) := by
  refine ⟨fun h => ?_, fun h => ?_, fun h0 h => ?_⟩
  · have h0 : L ≠ [] := fun e => by
      rw [goodS_yes (.inr (by rw [e]; exact ⟨by decide, fun i hi => absurd hi (Nat.not_lt_zero _)⟩))] at h
      cases h
    have h1 : L ≠ [mk [42]] := fun e => by rw [goodS_yes (.inl e)] at h; cases h
    have h2 : good L = false := by
      cases hg : good L with
      | false => rfl
      | true => rw [goodS_yes (.inr (good_iff.1 hg))] at h; cases h
    unfold joinB
    rw [if_neg h0, if_neg h1, h2]
    rfl
  · unfold joinB; rw [if_pos h]
  · unfold joinB
    rw [if_neg h0]
    by_cases h1 : L = [mk [42]]
    · rw [if_pos h1, h1]; rfl
    · rw [if_neg h1]
      have h2 : good L = true := by
        cases hg : good L with
        | true => rfl
        | false =>
          rw [goodS_no fun g => by
            rcases g with g | g
            · exact h1 g
            · rw [good_yes g] at hg; cases hg] at h
          cases h
      rw [if_pos h2]

/-- The first k texts with commas between them. -/
def joinTo (L : List ByteArray) (k : Nat) : List UInt8 := join ((L.take k).map (·.data.toList)) [44]
theorem joinTo_one {L : List ByteArray} (h : 0 < L.length) : joinTo L 1 = (gt L 0).data.toList := by
  cases L with
  | nil => simp at h
  | cons x r =>
    show join [x.data.toList] [44] = _
    rw [join_one]
    rfl
theorem joinTo_succ {L : List ByteArray} {k : Nat} (h0 : 1 ≤ k) (h : k < L.length) : joinTo L (k + 1) = joinTo L k ++ (44 :: (gt L k).data.toList) := by
  cases L with
  | nil => simp at h
  | cons x r =>
    obtain ⟨j, rfl⟩ : ∃ j, k = j + 1 := ⟨k - 1, by omega⟩
    have hj : j < r.length := by simp at h; omega
    have hg : (r.map (·.data.toList))[j]? = some (gt (x :: r) (j + 1)).data.toList := by
      rw [List.getElem?_map, List.getElem?_eq_getElem hj, gt_eq h]
      rfl
    unfold joinTo
    rw [List.take_succ_cons, List.take_succ_cons, List.map_cons, List.map_cons, join_cons, join_cons, List.map_take, List.map_take, joinTail_take_succ [44] _ j _ hg]
    simp [List.append_assoc]
theorem joinTo_all (L : List ByteArray) : joinTo L L.length = join (L.map (·.data.toList)) [44] := by unfold joinTo; rw [List.take_of_length_le (Nat.le_refl _)]

set_option maxRecDepth 20000 in
theorem rjoin_ok (a : Option Addr) (c : Nat) (L : List ByteArray) (w : World) (hr : RowL w a L) (hS : Short L) (hn : L.length ≤ 9223372036854775807) :
    Calls Tryd.prog 54 #[.slice a L.length c] w fun e w' => e = .returned (.string (joinB L)) ∧ Below w.heap.size w w' := by
  obtain ⟨j1, j2, j3⟩ := join_cases L
  have G := rgood_ok a c L w hr hS hn
  by_cases h0 : L = []
  · rw [j2 h0]
    have hg : goodS L = true := goodS_yes (.inr (by rw [h0]; exact ⟨by decide, fun i hi => absurd hi (Nat.not_lt_zero _)⟩))
    rw [hg] at G
    have hz : L.length = 0 := by rw [h0]; rfl
    rw [hz] at G ⊢
    clear j1 j2 j3 hr hS h0 hg hz
    go_enter Tryd.func54, Tryd.ntmps54
    go_wp2_with (go_at_call 68; refine G.mono ?_; rintro e w1 ⟨rfl, hb1⟩)
    go_ret
    exact ⟨rfl, hb1⟩
  have hpos : 0 < L.length := by cases L with | nil => exact absurd rfl h0 | cons _ _ => simp
  cases hg : goodS L with
  | false =>
    rw [j1 hg]
    rw [hg] at G
    clear j1 j2 j3 hr hS hg
    generalize L.length = m at *
    go_enter Tryd.func54, Tryd.ntmps54
    go_wp2_with (go_at_call 68; refine G.mono ?_; rintro e w1 ⟨rfl, hb1⟩)
    go_ret
    exact ⟨rfl, hb1⟩
  | true =>
    rw [hg] at G
    have HR : Hd (joinB L = mk (joinTo L L.length)) := ⟨by rw [joinTo_all]; exact j3 h0 hg⟩
    obtain ⟨h8, h64⟩ := goodS_sizes hg
    have HW : Hd (∀ k, k < L.length → (gt L k).size ≤ 64) := ⟨h64⟩
    have hone : Hd (joinTo L 1 = (gt L 0).data.toList) := ⟨joinTo_one hpos⟩
    clear j1 j2 j3 hS hg h0 h64
    obtain ⟨n, hL⟩ : ∃ n, L.length = n := ⟨_, rfl⟩
    have HM : Hd (L.length = n) := ⟨hL⟩
    obtain ⟨b, off, rfl, hb, hcs⟩ := hr hpos
    rw [hL] at G hn hpos h8 ⊢
    clear hL hr
    have hcell0 := hcs 0 (by rw [HM.out]; exact hpos)
    rw [Nat.add_zero] at hcell0
    go_enter Tryd.func54, Tryd.ntmps54
    go_wp2_with fail
    go_at_call 68
    refine G.mono ?_
    rintro e w1 ⟨rfl, hb1⟩
    have hcell1 := (hb1.cell (p := ⟨b, off, none⟩) hb).trans hcell0
    clear G hcell0
    have HCS : Hd (∀ k, k < L.length → w.cell? ⟨b, off + k, none⟩ = some (.string (gt L k))) := ⟨hcs⟩
    clear hcs
    go_wp2_with fail
    go_loop [3, 4] (fun s3 i => ∃ (k : Nat) (S : ByteArray), 1 ≤ k ∧ k ≤ n ∧ i = .int .i64 k ∧ s3 = .string S ∧ Hd (S = mk (joinTo L k)) ∧ S.size ≤ 65 * k) (fun _ i => n - (intOf i).toNat)
    case atStart => exact ⟨1, gt L 0, Nat.le_refl _, by omega, rfl, rfl, ⟨by rw [hone.out, mk_of]⟩, by have := HW.out 0 (by rw [HM.out]; exact hpos); omega⟩
    case round =>
      obtain ⟨k, S, hk1, hk, rfl, rfl, hSk, hsz⟩ := hrel
      by_cases hlt : k < n
      · have hlt' : k < L.length := by rw [HM.out]; exact hlt
        have hcell := (hb1.cell (p := ⟨b, off + k, none⟩) hb).trans (HCS.out k hlt')
        have hS' : Hd (S ++ (⟨#[44]⟩ ++ gt L k) = mk (joinTo L (k + 1))) := ⟨list_inj (by rw [cat_list, cat_list, mk_list, joinTo_succ hk1 hlt', hSk.out, mk_list]; rfl)⟩
        have hx64 := HW.out k hlt'
        clear hSk HCS hcell1 hone
        obtain ⟨x, hx⟩ : ∃ x, gt L k = x := ⟨_, rfl⟩
        rw [hx] at hcell hS' hx64
        have c1 : (⟨#[44]⟩ ++ x : ByteArray).size ≤ 65 := by rw [cat_size]; have : (⟨#[44]⟩ : ByteArray).size = 1 := rfl; omega
        have c2 : (S ++ (⟨#[44]⟩ ++ x)).size ≤ 65 * (k + 1) := by rw [cat_size]; omega
        have HZ : Hd ((S ++ (⟨#[44]⟩ ++ x)).size ≤ 65 * (k + 1)) := ⟨c2⟩
        clear hx
        go_wp2_with fail
        go_round
        case rel => exact ⟨k + 1, S ++ (⟨#[44]⟩ ++ x), by omega, by omega, by go_num, rfl, hS', HZ.out⟩
        case measure => simp [intOf]; omega
      · obtain rfl : k = n := by omega
        have hE : Hd (joinB L = S) := ⟨by rw [HR.out, HM.out, hSk.out]⟩
        clear hSk HCS hcell1 hone HR
        go_wp2_with fail
        go_ret
        exact ⟨by rw [hE.out]; rfl, hb1⟩


end Go.Proofs.YtfollcabppkihaaDoor

namespace Go.Proofs.YtfollcabppkihaaDoor
open Go.RowKit Go.Lib

theorem rdig_ok (n : Int) (w : World) (h : n ≤ 9223372036854775807) : Calls Tryd.prog 35 #[.int .i64 n] w fun e w' => e = .returned (.string (digR n)) ∧ Below w.heap.size w w' := by
  by_cases hn : n < 0
  · have e : digR n = tQ := if_pos hn
    have q : decide (n < 0) = true := decide_eq_true hn
    rw [e]
    clear e hn
    unfold tQ
    go_enter Tryd.func35, Tryd.ntmps35
    go_wp2_with fail
    go_ret
    exact ⟨rfl, Below.refl _ _⟩
  · have e : digR n = digB n := if_neg hn
    have q : decide (n < 0) = false := decide_eq_false hn
    have D := rdigits_ok n w h
    rw [e]
    clear e hn
    generalize digB n = x at *
    go_enter Tryd.func35, Tryd.ntmps35
    go_wp2_with (go_at_call 53; refine D.mono ?_; rintro e w' ⟨rfl, hb⟩)
    go_ret
    exact ⟨rfl, hb⟩
theorem rlst_ok (v : Value) (L : List ByteArray) (w : World) (h : LsR w v L) : Calls Tryd.prog 36 #[v] w fun e w' => e = .returned (.string (lstR L)) ∧ Below w.heap.size w w' := by
  obtain ⟨a, c, rfl, hr, hc, hn, hs⟩ := h
  have D := rjoin_ok a c L w hr (fun k hk => hs _ (gt_mem hk)) hn
  clear hr hc hs hn
  generalize L.length = m at *
  have hj : (joinB L).toList.isEmpty = decide (joinB L = mk []) := by
    have := name_eq (joinB L) (mk [])
    rw [← this, ByteArray.toList_eq (mk [])]
    cases (joinB L).toList <;> rfl
  by_cases he : joinB L = mk []
  · have e : lstR L = tQ := if_pos he
    rw [decide_eq_true he] at hj
    rw [e]
    clear e he
    unfold tQ
    generalize joinB L = x at *
    go_enter Tryd.func36, Tryd.ntmps36
    go_wp2_with (go_at_call 54; refine D.mono ?_; rintro e w' ⟨rfl, hb⟩)
    go_ret
    exact ⟨rfl, hb⟩
  · have e : lstR L = joinB L := if_neg he
    rw [decide_eq_false he] at hj
    rw [e]
    clear e he
    generalize joinB L = x at *
    go_enter Tryd.func36, Tryd.ntmps36
    go_wp2_with (go_at_call 54; refine D.mono ?_; rintro e w' ⟨rfl, hb⟩)
    go_ret
    exact ⟨rfl, hb⟩
theorem dig_le (n : Int) (h : n ≤ 9223372036854775807) : (digR n).size ≤ 20 := by
  unfold digR
  split
  · decide
  · rw [digB_size]
    have := dec19 (N := (max n 0).toNat) (by omega)
    omega
theorem bor_le (n : Int) (h : n ≤ 9223372036854775807) : (borR n).size ≤ 20 := by
  unfold borR
  split
  · decide
  · exact dig_le n h
theorem by_le (n : Int) : (byR n).size ≤ 20 := by
  unfold byR
  split
  · decide
  · split
    · decide
    · split <;> decide
theorem lst_le (L : List ByteArray) : (lstR L).size ≤ 600 := by
  unfold lstR
  split
  · decide
  · rename_i hne
    by_cases h0 : L = []
    · subst h0; decide
    by_cases h1 : L = [mk [42]]
    · subst h1
      have : joinB [mk [42]] = mk [42] := by unfold joinB; rw [if_neg (by simp), if_pos rfl]
      rw [this]; decide
    have hg : good L = true := by
      cases hg : good L with
      | true => rfl
      | false =>
        refine absurd ?_ hne
        unfold joinB
        rw [if_neg h0, if_neg h1, hg]
        rfl
    have hG := good_iff.1 hg
    have e : joinB L = mk (join (L.map (·.data.toList)) [44]) := by unfold joinB; rw [if_neg h0, if_neg h1, if_pos hg]
    rw [e, mk_size]
    have hw := good_words hG
    obtain ⟨x, r, rfl⟩ : ∃ x r, L = x :: r := by
      cases L with
      | nil => exact absurd rfl h0
      | cons x r => exact ⟨x, r, rfl⟩
    rw [List.map_cons, join_cons, List.length_append]
    have t1 := tail_len 44 (r.map (·.data.toList)) (fun y hy => by
      obtain ⟨z, hz, rfl⟩ := List.mem_map.1 hy
      rw [size_list]
      exact word_short (hw z (List.mem_cons_of_mem _ hz)))
    have t2 := word_short (hw x (List.mem_cons_self ..))
    have t3 : (x :: r).length ≤ 8 := hG.1
    rw [List.length_map] at t1
    rw [size_list]
    simp at t3
    omega

end Go.Proofs.YtfollcabppkihaaDoor
