/-
  What 'cut', 'Lines', 'Words' of the reference answer. Condition: the text has at most 2^14 bytes.
-/
import Derived.Test.YtooaojegdhamjaaDoorLawB
namespace Go.Proofs.YtooaojegdhamjaaDoor
open Go.RowKit Go.Lib

/-- The pieces so far, from where the next one begins, how far it was looked. -/
structure Cut (c : UInt8) (s : ByteArray) (P : List ByteArray) (fr i : Nat) : Prop where
  all : cutB c s = P ++ (cutL c (s.data.toList.drop fr)).map mk
  le : fr ≤ i
  none : ∀ j, fr ≤ j → j < i → s.data.toList[j]? ≠ some c

theorem no_byte {c : UInt8} {l : List UInt8} {a b : Nat} (h : ∀ j, a ≤ j → j < b → l[j]? ≠ some c) : c ∉ (l.drop a).take (b - a) := fun hm => by
  obtain ⟨k, hk, e⟩ := List.getElem_of_mem hm
  rw [List.length_take, List.length_drop] at hk
  rw [List.getElem_take, List.getElem_drop] at e
  exact h (a + k) (by omega) (by omega) (by rw [List.getElem?_eq_getElem (by omega), e])

theorem Cut.start (c : UInt8) (s : ByteArray) : Cut c s [] 0 0 := ⟨rfl, Nat.le_refl _, fun _ _ h => absurd h (Nat.not_lt_zero _)⟩
theorem Cut.miss {c : UInt8} {s : ByteArray} {P : List ByteArray} {fr i : Nat} (h : Cut c s P fr i) (hi : i < s.size) (hne : s[i] ≠ c) : Cut c s P fr (i + 1) :=
  ⟨h.all, by have := h.le; omega, fun j h1 h2 => by
    by_cases e : j = i
    · subst e; rw [byte_at s j hi]; intro e2; exact hne (Option.some.inj e2)
    · exact h.none j h1 (by omega)⟩
theorem Cut.hit {c : UInt8} {s : ByteArray} {P : List ByteArray} {fr i : Nat} (h : Cut c s P fr i) (hi : i < s.size) (he : s[i] = c) : Cut c s (P ++ [s.extract fr i]) (i + 1) (i + 1) := by
  refine ⟨?_, Nat.le_refl _, fun j h1 h2 => by omega⟩
  have hle := h.le
  have hl : i < s.data.toList.length := by rw [size_list]; exact hi
  have hd : s.data.toList.drop i = c :: s.data.toList.drop (i + 1) := by
    rw [List.drop_eq_getElem_cons hl]
    congr 1
  have e : s.data.toList.drop fr = (s.data.toList.drop fr).take (i - fr) ++ c :: s.data.toList.drop (i + 1) := by
    rw [← hd]
    conv => lhs; rw [← List.take_append_drop (i - fr) (s.data.toList.drop fr), List.drop_drop]
    rw [show fr + (i - fr) = i by omega]
  have e2 : cutL c (s.data.toList.drop fr) = (s.data.toList.drop fr).take (i - fr) :: cutL c (s.data.toList.drop (i + 1)) := by
    conv => lhs; rw [e]
    exact cutL_at c _ _ (no_byte h.none)
  rw [h.all, e2, List.map_cons, ext_list, List.append_assoc]
  rfl
theorem Cut.fin {c : UInt8} {s : ByteArray} {P : List ByteArray} {fr : Nat} (h : Cut c s P fr s.size) : P ++ [s.extract fr s.size] = cutB c s := by
  have nb := no_byte h.none
  have e : (s.data.toList.drop fr).take (s.size - fr) = s.data.toList.drop fr := List.take_of_length_le (by rw [List.length_drop, size_list]; exact Nat.le_refl _)
  rw [e] at nb
  rw [h.all, cutL_plain c _ nb, ext_list, e]
  rfl

theorem OwnT.shape2 {B : Nat} {w : World} {v : Value} {L : List ByteArray} (h : OwnT B w v L) : ∃ a c, v = .slice a L.length c ∧ RowL w a L ∧ L.length ≤ c := by
  obtain ⟨a, c, e, hr⟩ := h.shape
  refine ⟨a, c, e, hr, ?_⟩
  rcases h.2 with ⟨e2, h0⟩ | ⟨g, cap, cur, e2, hb, hg, hle, rest⟩
  · omega
  · rw [e] at e2
    injection e2 with _ _ e3
    omega

set_option maxRecDepth 20000 in
theorem rcut_ok (s : ByteArray) (c : UInt8) (ci : Int) (hci : ci = (c.toNat : Int)) (w : World) (hs : s.size ≤ 16384) :
    Calls Tryd.prog 20 #[.string s, .int .u8 ci] w fun e w' => ∃ a cap, e = .returned (.slice a (cutB c s).length cap) ∧ RowL w' a (cutB c s) ∧ (cutB c s).length ≤ cap ∧ Below w.heap.size w w' := by
  obtain ⟨i0, hi, hz0, hz1, hz2⟩ := info_parts info9
  go_enter Tryd.func20, Tryd.ntmps20
  go_wp2
  go_loopw [5, 6, 7] (fun s5 s6 i wr => ∃ (k fr : Nat) (P : List ByteArray), k ≤ s.size ∧ fr ≤ k ∧ i = .int .i64 k ∧ s6 = .int .i64 fr ∧ Hd (Cut c s P fr k) ∧ P.length ≤ k ∧ Hd (OwnT w.heap.size wr s5 P) ∧ Below w.heap.size w wr) (fun _ _ i _ => s.size - (intOf i).toNat)
  case atStart => exact ⟨0, 0, [], Nat.zero_le _, Nat.le_refl _, rfl, rfl, ⟨Cut.start c s⟩, Nat.le_refl _, ⟨⟨rfl, .inl ⟨rfl, rfl⟩⟩⟩, Below.refl _ _⟩
  case round =>
    obtain ⟨k, fr, P, hk, hfr, rfl, rfl, hC, hP, hown, p3⟩ := hrel
    have hsz := p3.size
    by_cases hlt : k < s.size
    · by_cases hb : s[k] = c
      · have hC' : Hd (Cut c s (P ++ [s.extract fr k]) (k + 1) (k + 1)) := ⟨hC.out.hit hlt hb⟩
        have e1 : ((s[k].toNat : Int) == ci) = true := by rw [hb, hci]; simp
        clear hC hb
        generalize hx : s.extract fr k = x at *
        clear hci
        go_wp2_with (at_builtin; refine wpList_append_own _ rfl _ _ 22 rfl w.heap.size 9 i0 (.string ByteArray.empty) 1 16 Tryd.underlying22 hi hz0 hz1 hz2 rfl (by decide) _ _ _ rfl (hown.out.alloc _) ⟨wr.heap.size, 0, none⟩ 1 1 [.string x] rfl rfl (one_newT _ _) (one_cellT _) (by unfold maxLen; omega) (by omega) (by simp; omega) ?_; intro v' w2 hown' hgrow _)
        have P4 : Hd (Below w.heap.size w w2) := ⟨(p3.alloc p3.size _).grown hgrow (by simp; omega) (fun j hj => (hown.out.lt j hj).1)⟩
        have O4 : Hd (OwnT w.heap.size w2 v' (P ++ [x])) := ⟨OwnT.put hown'⟩
        clear hown' hgrow hown p3
        go_roundw
        case rel => exact ⟨k + 1, k + 1, P ++ [x], by omega, by omega, by go_num, by go_num, hC', by simp; omega, O4, P4.out⟩
        case measure => simp [intOf]; omega
      · have hC' : Hd (Cut c s P fr (k + 1)) := ⟨hC.out.miss hlt hb⟩
        have e1 : ((s[k].toNat : Int) == ci) = false := by
          rw [hci]
          cases h : ((s[k].toNat : Int) == (c.toNat : Int)) with
          | false => rfl
          | true => exact absurd (UInt8.toNat_inj.1 (by have := eq_of_beq h; omega)) hb
        clear hC hb hci
        go_wp2
        go_roundw
        case rel => exact ⟨k + 1, fr, P, by omega, by omega, by go_num, rfl, hC', by omega, hown, p3⟩
        case measure => simp [intOf]; omega
    · obtain rfl : k = s.size := by omega
      have hF : Hd (P ++ [s.extract fr s.size] = cutB c s) := ⟨hC.out.fin⟩
      clear hC hci
      generalize hx : s.extract fr s.size = x at *
      go_wp2_with (at_builtin; refine wpList_append_own _ rfl _ _ 22 rfl w.heap.size 9 i0 (.string ByteArray.empty) 1 16 Tryd.underlying22 hi hz0 hz1 hz2 rfl (by decide) _ _ _ rfl (hown.out.alloc _) ⟨wr.heap.size, 0, none⟩ 1 1 [.string x] rfl rfl (one_newT _ _) (one_cellT _) (by unfold maxLen; omega) (by omega) (by simp; omega) ?_; intro v' w2 hown' hgrow _)
      have P4 : Hd (Below w.heap.size w w2) := ⟨(p3.alloc p3.size _).grown hgrow (by simp; omega) (fun j hj => (hown.out.lt j hj).1)⟩
      have O4 : OwnT w.heap.size w2 v' (P ++ [x]) := OwnT.put hown'
      rw [hF.out] at O4
      obtain ⟨a, cap, rfl, hrow, hcap⟩ := O4.shape2
      go_ret
      exact ⟨a, cap, rfl, hrow, hcap, P4.out⟩

/-- The texts that are not empty, of the first k. -/
def some_ (L : List ByteArray) (k : Nat) : List ByteArray := (L.take k).filter fun x => !x.toList.isEmpty
theorem some_zero (L : List ByteArray) : some_ L 0 = [] := rfl
theorem some_succ {L : List ByteArray} {k : Nat} (h : k < L.length) : some_ L (k + 1) = some_ L k ++ if (gt L k).toList.isEmpty then [] else [gt L k] := by
  unfold some_
  rw [List.take_add_one, List.getElem?_eq_getElem h, Option.toList_some, List.filter_append, gt_eq h]
  cases hb : L[k].toList.isEmpty with
  | true => rw [if_pos rfl, List.filter_cons, hb]; rfl
  | false => rw [if_neg (by decide), List.filter_cons, hb]; rfl
theorem some_all (s : ByteArray) : some_ (cutB 32 s) (cutB 32 s).length = wordsB s := by
  unfold some_ wordsB wordsL cutB
  rw [List.take_of_length_le (Nat.le_refl _), List.filter_map]
  congr 1
  apply List.filter_congr
  intro x _
  show (!(mk x).toList.isEmpty) = neL x
  rw [ByteArray.toList_eq, mk_list]
  rfl
theorem some_len (L : List ByteArray) (k : Nat) : (some_ L k).length ≤ k := by
  unfold some_
  refine Nat.le_trans (List.length_filter_le _ _) ?_
  rw [List.length_take]
  omega

set_option maxRecDepth 20000 in
theorem rwords_ok (s : ByteArray) (w : World) (hs : s.size ≤ 16384) :
    Calls Tryd.prog 11 #[.string s] w fun e w' => ∃ a c, e = .returned (.slice a (wordsB s).length c) ∧ RowL w' a (wordsB s) ∧ Below w.heap.size w w' := by
  obtain ⟨i0, hi, hz0, hz1, hz2⟩ := info_parts info9
  have S := rcut_ok s 32 32 (by decide) w hs
  have hlen := cutB_len 32 s
  have hc := count_le s 32
  have HE : Hd (some_ (cutB 32 s) (cutB 32 s).length = wordsB s) := ⟨some_all s⟩
  generalize wordsB s = R at *
  generalize cutB 32 s = L at *
  obtain ⟨m, hm⟩ : ∃ m, L.length = m := ⟨_, rfl⟩
  rw [hm] at S hlen
  have HM : Hd (L.length = m) := ⟨hm⟩
  have hm2 : m ≤ 16385 := by omega
  clear hlen hm hc
  go_enter Tryd.func11, Tryd.ntmps11
  go_wp2_with fail
  go_at_call 20
  refine S.mono ?_
  rintro e w1 ⟨a, cap, rfl, hr, hcap, hb⟩
  clear S
  go_wp2
  go_loopw [4, 5] (fun s4 i wr => ∃ (k : Nat), k ≤ m ∧ i = .int .i64 k ∧ Hd (OwnT w1.heap.size wr s4 (some_ L k)) ∧ Below w1.heap.size w1 wr) (fun _ i _ => m - (intOf i).toNat)
  case atStart => exact ⟨0, Nat.zero_le _, rfl, ⟨⟨rfl, .inl ⟨rfl, rfl⟩⟩⟩, Below.refl _ _⟩
  case round =>
    obtain ⟨k, hk, rfl, hown, p3⟩ := hrel
    have hsz := p3.size
    by_cases hlt : k < m
    · have hlt' : k < L.length := by rw [HM.out]; exact hlt
      obtain ⟨b, off, rfl, hbl, hcs⟩ := hr (by omega)
      have hcell := (p3.cell (p := ⟨b, off + k, none⟩) hbl).trans (hcs k hlt')
      have hS := some_succ hlt'
      have hSl := some_len L k
      clear hcs
      cases he : (gt L k).toList.isEmpty with
      | true =>
        rw [if_pos he, List.append_nil] at hS
        have hown' : Hd (OwnT w1.heap.size wr u4 (some_ L (k + 1))) := ⟨by rw [hS]; exact hown.out⟩
        clear hS hown
        generalize gt L k = x at *
        go_wp2_with fail
        go_roundw
        case rel => exact ⟨k + 1, by omega, by go_num, hown', p3⟩
        case measure => simp [intOf]; omega
      | false =>
        rw [if_neg (by rw [he]; decide)] at hS
        have HS : Hd (some_ L (k + 1) = some_ L k ++ [gt L k]) := ⟨hS⟩
        clear hS
        generalize gt L k = x at *
        go_wp2_with (at_builtin; refine wpList_append_own _ rfl _ _ 22 rfl w1.heap.size 9 i0 (.string ByteArray.empty) 1 16 Tryd.underlying22 hi hz0 hz1 hz2 rfl (by decide) _ _ _ rfl (hown.out.alloc _) ⟨wr.heap.size, 0, none⟩ 1 1 [.string x] rfl rfl (one_newT _ _) (one_cellT _) (by unfold maxLen; omega) (by omega) (by simp; omega) ?_; intro v' w2 hown' hgrow _)
        have P4 : Hd (Below w1.heap.size w1 w2) := ⟨(p3.alloc p3.size _).grown hgrow (by simp; omega) (fun j hj => (hown.out.lt j hj).1)⟩
        have O4 : Hd (OwnT w1.heap.size w2 v' (some_ L (k + 1))) := ⟨by rw [HS.out]; exact OwnT.put hown'⟩
        clear hown' hgrow hown p3 HS
        go_roundw
        case rel => exact ⟨k + 1, by omega, by go_num, O4, P4.out⟩
        case measure => simp [intOf]; omega
    · obtain rfl : k = m := by omega
      have o := hown.out
      rw [← HM.out, HE.out] at o
      obtain ⟨a4, c4, rfl, hrow⟩ := o.shape
      have O : Hd (RowL wr a4 R) := ⟨hrow⟩
      clear o hrow hown hr HE
      go_wp2
      go_ret
      exact ⟨a4, c4, rfl, O.out, hb.trans (p3.mono hb.size)⟩

end Go.Proofs.YtooaojegdhamjaaDoor
