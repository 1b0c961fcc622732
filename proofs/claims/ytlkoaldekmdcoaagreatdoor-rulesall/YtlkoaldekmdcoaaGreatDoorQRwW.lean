/-
  What the reference cuts a text into. Condition: the text is not longer than 131072 bytes.
-/
import Derived.Test.YtlkoaldekmdcoaaGreatDoorQRbA
namespace Go.Proofs.YtlkoaldekmdcoaaGreatDoor
open Go.RowKit Go.Lib

set_option maxRecDepth 20000 in
theorem rcut_ok (s : ByteArray) (c : UInt8) (ci : Int) (hci : ci = (c.toNat : Int)) (w : World) (hs : s.size ≤ 131072) :
    Calls Tryz.prog 82 #[.string s, .int .u8 ci] w fun e w' => ∃ a cap, e = .returned (.slice a (cutB c s).length cap) ∧ RowL w' a (cutB c s) ∧ (cutB c s).length ≤ cap ∧ Below w.heap.size w w' := by
  obtain ⟨i0, hi, hz0, hz1, hz2⟩ := info_parts info9
  go_enter Tryz.func82, Tryz.ntmps82
  go_wp2
  go_loopw [5, 6, 7] (fun s5 s6 i wr => ∃ (k fr : Nat) (P : List ByteArray), k ≤ s.size ∧ fr ≤ k ∧ i = .int .i64 k ∧ s6 = .int .i64 fr ∧ Hd (Cut c s P fr k) ∧ P.length ≤ k ∧ Hd (OwnT w.heap.size wr s5 P) ∧ Below w.heap.size w wr) (fun _ _ i _ => s.size - (intOf i).toNat)
  case atStart => exact ⟨0, 0, [], Nat.zero_le _, Nat.le_refl _, rfl, rfl, ⟨Cut.start c s⟩, Nat.le_refl _, ⟨⟨rfl, .inl ⟨rfl, rfl⟩⟩⟩, Below.refl _ _⟩
  case round =>
    obtain ⟨k, fr, P, hk, hfr, rfl, rfl, hC, hP, hown, p3⟩ := hrel
    have hsz := p3.size
    by_cases hlt : k < s.size
    · by_cases hb : s[k] = c
      · have hC' : Hd (Cut c s (P ++ [s.extract fr k]) (k + 1) (k + 1)) := ⟨hC.out.hit hlt hb⟩
        have e1 : ((s[k].toNat : Int) == ci) = true := by rw [hb, hci]; simp
        clear hC hb
        generalize hx : s.extract fr k = x at *
        clear hci
        go_wp2_with (at_builtin; refine wpList_append_own _ rfl _ _ 49 rfl w.heap.size 9 i0 (.string ByteArray.empty) 1 16 Tryz.underlying49 hi hz0 hz1 hz2 rfl (by decide) _ _ _ rfl (hown.out.alloc _) ⟨wr.heap.size, 0, none⟩ 1 1 [.string x] rfl rfl (one_newT _ _) (one_cellT _) (by unfold maxLen; omega) (by omega) (by simp; omega) ?_; intro v' w2 hown' hgrow _)
        have P4 : Hd (Below w.heap.size w w2) := ⟨(p3.alloc p3.size _).grown hgrow (by simp; omega) (fun j hj => (hown.out.lt j hj).1)⟩
        have O4 : Hd (OwnT w.heap.size w2 v' (P ++ [x])) := ⟨OwnT.put hown'⟩
        clear hown' hgrow hown p3
        go_roundw
        case rel => exact ⟨k + 1, k + 1, P ++ [x], by omega, by omega, by go_num, by go_num, hC', by simp; omega, O4, P4.out⟩
        case measure => simp [intOf]; omega
      · have hC' : Hd (Cut c s P fr (k + 1)) := ⟨hC.out.miss hlt hb⟩
        have e1 : ((s[k].toNat : Int) == ci) = false := by
          rw [hci]
          cases h : ((s[k].toNat : Int) == (c.toNat : Int)) with
          | false => rfl
          | true => exact absurd (UInt8.toNat_inj.1 (by have := eq_of_beq h; omega)) hb
        clear hC hb hci
        go_wp2
        go_roundw
        case rel => exact ⟨k + 1, fr, P, by omega, by omega, by go_num, rfl, hC', by omega, hown, p3⟩
        case measure => simp [intOf]; omega
    · obtain rfl : k = s.size := by omega
      have hF : Hd (P ++ [s.extract fr s.size] = cutB c s) := ⟨hC.out.fin⟩
      clear hC hci
      generalize hx : s.extract fr s.size = x at *
      go_wp2_with (at_builtin; refine wpList_append_own _ rfl _ _ 49 rfl w.heap.size 9 i0 (.string ByteArray.empty) 1 16 Tryz.underlying49 hi hz0 hz1 hz2 rfl (by decide) _ _ _ rfl (hown.out.alloc _) ⟨wr.heap.size, 0, none⟩ 1 1 [.string x] rfl rfl (one_newT _ _) (one_cellT _) (by unfold maxLen; omega) (by omega) (by simp; omega) ?_; intro v' w2 hown' hgrow _)
      have P4 : Hd (Below w.heap.size w w2) := ⟨(p3.alloc p3.size _).grown hgrow (by simp; omega) (fun j hj => (hown.out.lt j hj).1)⟩
      have O4 : OwnT w.heap.size w2 v' (P ++ [x]) := OwnT.put hown'
      rw [hF.out] at O4
      obtain ⟨a, cap, rfl, hrow, hcap⟩ := O4.shape2
      go_ret
      exact ⟨a, cap, rfl, hrow, hcap, P4.out⟩

/-- The texts that are not empty, of the first k. -/
def some_ (L : List ByteArray) (k : Nat) : List ByteArray := (L.take k).filter fun x => !x.toList.isEmpty
theorem some_succ {L : List ByteArray} {k : Nat} (h : k < L.length) : some_ L (k + 1) = some_ L k ++ if (gt L k).toList.isEmpty then [] else [gt L k] := by
  unfold some_
  rw [List.take_add_one, List.getElem?_eq_getElem h, Option.toList_some, List.filter_append, gt_eq h]
  cases hb : L[k].toList.isEmpty with
  | true => rw [if_pos rfl, List.filter_cons, hb]; rfl
  | false => rw [if_neg (by decide), List.filter_cons, hb]; rfl
theorem some_all (s : ByteArray) : some_ (cutB 32 s) (cutB 32 s).length = wordsB s := by
  unfold some_ wordsB wordsL cutB
  rw [List.take_of_length_le (Nat.le_refl _), List.filter_map]
  congr 1
  apply List.filter_congr
  intro x _
  show (!(mk x).toList.isEmpty) = neL x
  rw [ByteArray.toList_eq, mk_list]
  rfl
theorem some_len (L : List ByteArray) (k : Nat) : (some_ L k).length ≤ k := by
  unfold some_
  refine Nat.le_trans (List.length_filter_le _ _) ?_
  rw [List.length_take]
  omega

set_option maxRecDepth 20000 in
theorem rwords_ok (s : ByteArray) (w : World) (hs : s.size ≤ 131072) :
    Calls Tryz.prog 54 #[.string s] w fun e w' => ∃ a c, e = .returned (.slice a (wordsB s).length c) ∧ RowL w' a (wordsB s) ∧ Below w.heap.size w w' := by
  obtain ⟨i0, hi, hz0, hz1, hz2⟩ := info_parts info9
  have S := rcut_ok s 32 32 (by decide) w hs
  have hlen := cutB_len 32 s
  have hc := count_le s 32
  have HE : Hd (some_ (cutB 32 s) (cutB 32 s).length = wordsB s) := ⟨some_all s⟩
  generalize wordsB s = R at *
  generalize cutB 32 s = L at *
  obtain ⟨m, hm⟩ : ∃ m, L.length = m := ⟨_, rfl⟩
  rw [hm] at S hlen
  have HM : Hd (L.length = m) := ⟨hm⟩
  have hm2 : m ≤ 131073 := by omega
  clear hlen hm hc
  go_enter Tryz.func54, Tryz.ntmps54
  go_wp2_with fail
  go_at_call 82
  refine S.mono ?_
  rintro e w1 ⟨a, cap, rfl, hr, hcap, hb⟩
  clear S
  go_wp2
  go_loopw [4, 5] (fun s4 i wr => ∃ (k : Nat), k ≤ m ∧ i = .int .i64 k ∧ Hd (OwnT w1.heap.size wr s4 (some_ L k)) ∧ Below w1.heap.size w1 wr) (fun _ i _ => m - (intOf i).toNat)
  case atStart => exact ⟨0, Nat.zero_le _, rfl, ⟨⟨rfl, .inl ⟨rfl, rfl⟩⟩⟩, Below.refl _ _⟩
  case round =>
    obtain ⟨k, hk, rfl, hown, p3⟩ := hrel
    have hsz := p3.size
    by_cases hlt : k < m
    · have hlt' : k < L.length := by rw [HM.out]; exact hlt
      obtain ⟨b, off, rfl, hbl, hcs⟩ := hr (by omega)
      have hcell := (p3.cell (p := ⟨b, off + k, none⟩) hbl).trans (hcs k hlt')
      have hS := some_succ hlt'
      have hSl := some_len L k
      clear hcs
      cases he : (gt L k).toList.isEmpty with
      | true =>
        rw [if_pos he, List.append_nil] at hS
        have hown' : Hd (OwnT w1.heap.size wr u4 (some_ L (k + 1))) := ⟨by rw [hS]; exact hown.out⟩
        clear hS hown
        generalize gt L k = x at *
        go_wp2_with fail
        go_roundw
        case rel => exact ⟨k + 1, by omega, by go_num, hown', p3⟩
        case measure => simp [intOf]; omega
      | false =>
        rw [if_neg (by rw [he]; decide)] at hS
        have HS : Hd (some_ L (k + 1) = some_ L k ++ [gt L k]) := ⟨hS⟩
        clear hS
        generalize gt L k = x at *
        go_wp2_with (at_builtin; refine wpList_append_own _ rfl _ _ 49 rfl w1.heap.size 9 i0 (.string ByteArray.empty) 1 16 Tryz.underlying49 hi hz0 hz1 hz2 rfl (by decide) _ _ _ rfl (hown.out.alloc _) ⟨wr.heap.size, 0, none⟩ 1 1 [.string x] rfl rfl (one_newT _ _) (one_cellT _) (by unfold maxLen; omega) (by omega) (by simp; omega) ?_; intro v' w2 hown' hgrow _)
        have P4 : Hd (Below w1.heap.size w1 w2) := ⟨(p3.alloc p3.size _).grown hgrow (by simp; omega) (fun j hj => (hown.out.lt j hj).1)⟩
        have O4 : Hd (OwnT w1.heap.size w2 v' (some_ L (k + 1))) := ⟨by rw [HS.out]; exact OwnT.put hown'⟩
        clear hown' hgrow hown p3 HS
        go_roundw
        case rel => exact ⟨k + 1, by omega, by go_num, O4, P4.out⟩
        case measure => simp [intOf]; omega
    · obtain rfl : k = m := by omega
      have o := hown.out
      rw [← HM.out, HE.out] at o
      obtain ⟨a4, c4, rfl, hrow⟩ := o.shape
      have O : Hd (RowL wr a4 R) := ⟨hrow⟩
      clear o hrow hown hr HE
      go_wp2
      go_ret
      exact ⟨a4, c4, rfl, O.out, hb.trans (p3.mono hb.size)⟩

end Go.Proofs.YtlkoaldekmdcoaaGreatDoor
