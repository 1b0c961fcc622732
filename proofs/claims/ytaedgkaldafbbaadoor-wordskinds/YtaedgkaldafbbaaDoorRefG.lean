/-
  What 'List', 'Join' of the reference answer. Conditions: the list lies in memory; the text of 'List' has at most 2^14 bytes.
-/
import Derived.Test.YtaedgkaldafbbaaDoorRefF
namespace Go.Proofs.YtaedgkaldafbbaaDoor
open Go.RowKit Go.Lib

theorem cut_star {s : ByteArray} (h : cutB 44 s = [mk [42]]) : s = mk [42] := by
  have h2 := congrArg (fun L : List ByteArray => join (L.map (·.data.toList)) [44]) h
  unfold cutB at h2
  simp only [List.map_map] at h2
  have : ((fun x : ByteArray => x.data.toList) ∘ mk) = id := by funext x; exact mk_list x
  rw [this, List.map_id, join_cut] at h2
  apply list_inj
  rw [h2, mk_list]
  rfl
theorem goodS_cut {s : ByteArray} (h : s ≠ mk [45]) : listOk s = goodS (cutB 44 s) ∧ listOf s = if goodS (cutB 44 s) then cutB 44 s else [] := by
  unfold listOk listOf
  rw [if_neg h, if_neg h]
  by_cases h1 : s = mk [42]
  · rw [if_pos h1, if_pos h1, h1, show cutB 44 (mk [42]) = [mk [42]] from rfl, goodS_yes (.inl rfl)]
    exact ⟨rfl, rfl⟩
  · rw [if_neg h1, if_neg h1]
    have e : good (cutB 44 s) = goodS (cutB 44 s) := by
      cases hg : good (cutB 44 s) with
      | true => exact (goodS_yes (.inr (good_iff.1 hg))).symm
      | false =>
        refine (goodS_no fun g => ?_).symm
        rcases g with g | g
        · exact h1 (cut_star g)
        · rw [good_yes g] at hg; cases hg
    rw [e]
    exact ⟨rfl, rfl⟩

theorem rlist_ok (s : ByteArray) (w : World) (hs : s.size ≤ 16384) :
    Calls Tryd.prog 24 #[.string s] w fun e w' => ∃ a c, e = .returned (.tuple #[.slice a (listOf s).length c, .bool (listOk s)]) ∧ RowL w' a (listOf s) ∧ Below w.heap.size w w' := by
  by_cases h1 : s = mk [45]
  · have e1 : listOf s = [] := by unfold listOf; rw [if_pos h1]
    have e2 : listOk s = true := by unfold listOk; rw [if_pos h1]
    rw [e1, e2]
    subst h1
    show Calls Tryd.prog 24 #[.string ⟨#[45]⟩] w _
    go_enter Tryd.func24, Tryd.ntmps24
    go_wp2_with fail
    go_ret2
    exact ⟨none, 0, rfl, fun h => absurd h (Nat.lt_irrefl 0), Below.refl _ _⟩
  have n1 : (s.toList == [45]) = false := by have := str_ne h1; rw [ByteArray.toList_eq (mk [45]), mk_list] at this; exact this
  obtain ⟨g1, g2⟩ := goodS_cut h1
  rw [g1, g2]
  clear g1 g2 h1
  have C := rcut_ok s 44 44 (by decide) w hs
  have G := fun (a : Option Addr) (c : Nat) w hr => rgood_ok a c (cutB 44 s) w hr (short_cut 44 s (by omega)) (by rw [cutB_len]; have := count_le s 44; omega)
  generalize cutB 44 s = L at *
  cases hg : goodS L with
  | false =>
    rw [hg] at G
    rw [if_neg (by decide)]
    clear hg
    go_enter Tryd.func24, Tryd.ntmps24
    go_wp2_with fail
    go_at_call 32
    refine C.mono ?_
    rintro e w1 ⟨a1, c1, rfl, r1, k1, hb1⟩
    have G1 := G a1 c1 w1 r1
    clear C G
    have HR : Hd (RowL w1 a1 L) := ⟨r1⟩
    clear r1
    generalize hlen : L.length = m at *
    have HL : Hd (L.length = m) := ⟨hlen⟩
    clear hlen
    go_wp2_with (go_at_call 41; refine G1.mono ?_; rintro e w2 ⟨rfl, hb2⟩)
    go_ret2
    exact ⟨none, 0, rfl, fun h => absurd h (Nat.lt_irrefl 0), hb1.trans (hb2.mono hb1.size)⟩
  | true =>
    rw [hg] at G
    rw [if_pos rfl]
    clear hg
    go_enter Tryd.func24, Tryd.ntmps24
    go_wp2_with fail
    go_at_call 32
    refine C.mono ?_
    rintro e w1 ⟨a1, c1, rfl, r1, k1, hb1⟩
    have G1 := G a1 c1 w1 r1
    clear C G
    have HR : Hd (RowL w1 a1 L) := ⟨r1⟩
    clear r1
    generalize hlen : L.length = m at *
    have HL : Hd (L.length = m) := ⟨hlen⟩
    clear hlen
    go_wp2_with (go_at_call 41; refine G1.mono ?_; rintro e w2 ⟨rfl, hb2⟩)
    go_ret2
    exact ⟨a1, c1, by rw [HL.out]; rfl, HR.out.carry hb2, hb1.trans (hb2.mono hb1.size)⟩

theorem goodS_sizes {L : List ByteArray} (h : goodS L = true) : L.length ≤ 8 ∧ ∀ k, k < L.length → (gt L k).size ≤ 64 := by
  have h' : L = [mk [42]] ∨ Good L := Classical.byContradiction fun hn => by rw [goodS_no hn] at h; cases h
  clear h
  rcases h' with h | h
  · subst h
    refine ⟨by decide, fun k hk => ?_⟩
    obtain rfl : k = 0 := by simp at hk; omega
    decide
  · exact ⟨h.1, fun k hk => word_short (h.2 k hk).1⟩

theorem join_cases (L : List ByteArray) : (goodS L = false → joinB L = mk []) ∧ (L = [] → joinB L = mk [45]) ∧ (L ≠ [] → goodS L = true → joinB L = mk (join (L.map (·.data.toList)) [44])) := by
  refine ⟨fun h => ?_, fun h => ?_, fun h0 h => ?_⟩
  · have h0 : L ≠ [] := fun e => by
      rw [goodS_yes (.inr (by rw [e]; exact ⟨by decide, fun i hi => absurd hi (Nat.not_lt_zero _)⟩))] at h
      cases h
    have h1 : L ≠ [mk [42]] := fun e => by rw [goodS_yes (.inl e)] at h; cases h
    have h2 : good L = false := by
      cases hg : good L with
      | false => rfl
      | true => rw [goodS_yes (.inr (good_iff.1 hg))] at h; cases h
    unfold joinB
    rw [if_neg h0, if_neg h1, h2]
    rfl
  · unfold joinB; rw [if_pos h]
  · unfold joinB
    rw [if_neg h0]
    by_cases h1 : L = [mk [42]]
    · rw [if_pos h1, h1]; rfl
    · rw [if_neg h1]
      have h2 : good L = true := by
        cases hg : good L with
        | true => rfl
        | false =>
          rw [goodS_no fun g => by
            rcases g with g | g
            · exact h1 g
            · rw [good_yes g] at hg; cases hg] at h
          cases h
      rw [if_pos h2]

/-- The first k texts with commas between them. -/
def joinTo (L : List ByteArray) (k : Nat) : List UInt8 := join ((L.take k).map (·.data.toList)) [44]
theorem joinTo_one {L : List ByteArray} (h : 0 < L.length) : joinTo L 1 = (gt L 0).data.toList := by
  cases L with
  | nil => simp at h
  | cons x r =>
    show join [x.data.toList] [44] = _
    rw [join_one]
    rfl
theorem joinTo_succ {L : List ByteArray} {k : Nat} (h0 : 1 ≤ k) (h : k < L.length) : joinTo L (k + 1) = joinTo L k ++ (44 :: (gt L k).data.toList) := by
  cases L with
  | nil => simp at h
  | cons x r =>
    obtain ⟨j, rfl⟩ : ∃ j, k = j + 1 := ⟨k - 1, by omega⟩
    have hj : j < r.length := by simp at h; omega
    have hg : (r.map (·.data.toList))[j]? = some (gt (x :: r) (j + 1)).data.toList := by
      rw [List.getElem?_map, List.getElem?_eq_getElem hj, gt_eq h]
      rfl
    unfold joinTo
    rw [List.take_succ_cons, List.take_succ_cons, List.map_cons, List.map_cons, join_cons, join_cons, List.map_take, List.map_take, joinTail_take_succ [44] _ j _ hg]
    simp [List.append_assoc]
theorem joinTo_all (L : List ByteArray) : joinTo L L.length = join (L.map (·.data.toList)) [44] := by unfold joinTo; rw [List.take_of_length_le (Nat.le_refl _)]

set_option maxRecDepth 20000 in
theorem rjoin_ok (a : Option Addr) (c : Nat) (L : List ByteArray) (w : World) (hr : RowL w a L) (hS : Short L) (hn : L.length ≤ 9223372036854775807) :
    Calls Tryd.prog 30 #[.slice a L.length c] w fun e w' => e = .returned (.string (joinB L)) ∧ Below w.heap.size w w' := by
  obtain ⟨j1, j2, j3⟩ := join_cases L
  have G := rgood_ok a c L w hr hS hn
  by_cases h0 : L = []
  · rw [j2 h0]
    have hg : goodS L = true := goodS_yes (.inr (by rw [h0]; exact ⟨by decide, fun i hi => absurd hi (Nat.not_lt_zero _)⟩))
    rw [hg] at G
    have hz : L.length = 0 := by rw [h0]; rfl
    rw [hz] at G ⊢
    clear j1 j2 j3 hr hS h0 hg hz
    go_enter Tryd.func30, Tryd.ntmps30
    go_wp2_with (go_at_call 41; refine G.mono ?_; rintro e w1 ⟨rfl, hb1⟩)
    go_ret
    exact ⟨rfl, hb1⟩
  have hpos : 0 < L.length := by cases L with | nil => exact absurd rfl h0 | cons _ _ => simp
  cases hg : goodS L with
  | false =>
    rw [j1 hg]
    rw [hg] at G
    clear j1 j2 j3 hr hS hg
    generalize L.length = m at *
    go_enter Tryd.func30, Tryd.ntmps30
    go_wp2_with (go_at_call 41; refine G.mono ?_; rintro e w1 ⟨rfl, hb1⟩)
    go_ret
    exact ⟨rfl, hb1⟩
  | true =>
    rw [hg] at G
    have HR : Hd (joinB L = mk (joinTo L L.length)) := ⟨by rw [joinTo_all]; exact j3 h0 hg⟩
    obtain ⟨h8, h64⟩ := goodS_sizes hg
    have HW : Hd (∀ k, k < L.length → (gt L k).size ≤ 64) := ⟨h64⟩
    have hone : Hd (joinTo L 1 = (gt L 0).data.toList) := ⟨joinTo_one hpos⟩
    clear j1 j2 j3 hS hg h0 h64
    obtain ⟨n, hL⟩ : ∃ n, L.length = n := ⟨_, rfl⟩
    have HM : Hd (L.length = n) := ⟨hL⟩
    obtain ⟨b, off, rfl, hb, hcs⟩ := hr hpos
    rw [hL] at G hn hpos h8 ⊢
    clear hL hr
    have hcell0 := hcs 0 (by rw [HM.out]; exact hpos)
    rw [Nat.add_zero] at hcell0
    go_enter Tryd.func30, Tryd.ntmps30
    go_wp2_with fail
    go_at_call 41
    refine G.mono ?_
    rintro e w1 ⟨rfl, hb1⟩
    have hcell1 := (hb1.cell (p := ⟨b, off, none⟩) hb).trans hcell0
    clear G hcell0
    have HCS : Hd (∀ k, k < L.length → w.cell? ⟨b, off + k, none⟩ = some (.string (gt L k))) := ⟨hcs⟩
    clear hcs
    go_wp2_with fail
    go_loop [3, 4] (fun s3 i => ∃ (k : Nat) (S : ByteArray), 1 ≤ k ∧ k ≤ n ∧ i = .int .i64 k ∧ s3 = .string S ∧ Hd (S = mk (joinTo L k)) ∧ S.size ≤ 65 * k) (fun _ i => n - (intOf i).toNat)
    case atStart => exact ⟨1, gt L 0, Nat.le_refl _, by omega, rfl, rfl, ⟨by rw [hone.out, mk_of]⟩, by have := HW.out 0 (by rw [HM.out]; exact hpos); omega⟩
    case round =>
      obtain ⟨k, S, hk1, hk, rfl, rfl, hSk, hsz⟩ := hrel
      by_cases hlt : k < n
      · have hlt' : k < L.length := by rw [HM.out]; exact hlt
        have hcell := (hb1.cell (p := ⟨b, off + k, none⟩) hb).trans (HCS.out k hlt')
        have hS' : Hd (S ++ (⟨#[44]⟩ ++ gt L k) = mk (joinTo L (k + 1))) := ⟨list_inj (by rw [cat_list, cat_list, mk_list, joinTo_succ hk1 hlt', hSk.out, mk_list]; rfl)⟩
        have hx64 := HW.out k hlt'
        clear hSk HCS hcell1 hone
        obtain ⟨x, hx⟩ : ∃ x, gt L k = x := ⟨_, rfl⟩
        rw [hx] at hcell hS' hx64
        have c1 : (⟨#[44]⟩ ++ x : ByteArray).size ≤ 65 := by rw [cat_size]; have : (⟨#[44]⟩ : ByteArray).size = 1 := rfl; omega
        have c2 : (S ++ (⟨#[44]⟩ ++ x)).size ≤ 65 * (k + 1) := by rw [cat_size]; omega
        have HZ : Hd ((S ++ (⟨#[44]⟩ ++ x)).size ≤ 65 * (k + 1)) := ⟨c2⟩
        clear hx
        go_wp2_with fail
        go_round
        case rel => exact ⟨k + 1, S ++ (⟨#[44]⟩ ++ x), by omega, by omega, by go_num, rfl, hS', HZ.out⟩
        case measure => simp [intOf]; omega
      · obtain rfl : k = n := by omega
        have hE : Hd (joinB L = S) := ⟨by rw [HR.out, HM.out, hSk.out]⟩
        clear hSk HCS hcell1 hone HR
        go_wp2_with fail
        go_ret
        exact ⟨by rw [hE.out]; rfl, hb1⟩

end Go.Proofs.YtaedgkaldafbbaaDoor
