/-
  What 'WordsBack' of the statements answers: true, for every list of texts and every list of bytes. No condition but that they lie in memory.
-/
import Derived.Test.YtaedgkaldafbbaaDoorAwake
import Derived.Test.YtaedgkaldafbbaaDoorMathB
import Derived.Laws.AppendOwnNone
namespace Go.Proofs.YtaedgkaldafbbaaDoor
open Go.RowKit Go.Lib

/-- A list of bytes that lies in memory. -/
def RowB (w : World) (a : Option Addr) (n : Nat) (f : Nat → Nat) : Prop :=
  0 < n → ∃ b off, a = some ⟨b, off, none⟩ ∧ b < w.heap.size ∧ ∀ k, k < n → w.cell? ⟨b, off + k, none⟩ = some (.int .u8 (f k : Nat))
theorem RowB.carry {w w' : World} {a : Option Addr} {n : Nat} {f : Nat → Nat} (h : RowB w a n f) (g : Below w.heap.size w w') : RowB w' a n f := by
  intro hn
  obtain ⟨b, off, e, hb, hc⟩ := h hn
  exact ⟨b, off, e, Nat.lt_of_lt_of_le hb g.size, fun k hk => (g.cell (p := ⟨b, off + k, none⟩) hb).trans (hc k hk)⟩

theorem one_newT (w : World) (x : ByteArray) : ∀ j u, ([.string x] : List Value)[j]? = some u → (w.alloc (.cells #[.string x] 9)).cell? ((⟨w.heap.size, 0, none⟩ : Addr).add j) = some u := by
  intro j u hj
  match j, hj with
  | 0, hj => simp at hj; subst hj; simp [Addr.add]
theorem one_cellT (x : ByteArray) : ∀ u ∈ ([.string x] : List Value), u.oneCell' = true := by
  intro u hu; simp at hu; subst hu; rfl

/-- A list of texts of the call's own. -/
def OwnT (B : Nat) (w : World) (v : Value) (L : List ByteArray) : Prop := w.ownsRow B 9 1 v L.length (L.map Value.string)
theorem OwnT.shape {B : Nat} {w : World} {v : Value} {L : List ByteArray} (h : OwnT B w v L) : ∃ a c, v = .slice a L.length c ∧ RowL w a L := by
  rcases h.2 with ⟨rfl, h0⟩ | ⟨g, cap, cur, rfl, hb, hg, rest⟩
  · have : L = [] := by cases L with | nil => rfl | cons _ _ => simp at h0
    subst this
    exact ⟨none, 0, rfl, fun h => absurd h (Nat.lt_irrefl 0)⟩
  · refine ⟨some ⟨g, 0, none⟩, cap, rfl, fun hn => ⟨g, 0, rfl, (h.lt g rfl).2, fun k hk => ?_⟩⟩
    rw [Nat.zero_add, h.cellAt k (by omega), List.getElem?_map, List.getElem?_eq_getElem hk, gt_eq hk]
    rfl

theorem word_clean {s : ByteArray} (h : isWord s = true) : s.size ≤ 64 ∧ s.data.toList ≠ [] ∧ (32 : UInt8) ∉ s.data.toList ∧ (10 : UInt8) ∉ s.data.toList := by
  rw [isWord_eq] at h
  simp only [Bool.and_eq_true, decide_eq_true_eq, Bool.not_eq_true', decide_eq_false_iff_not] at h
  obtain ⟨h1, h2, h3, h4⟩ := h
  have hall : ∀ b ∈ s.data.toList, isWordB (b.toNat : Int) = true := by
    unfold allB at h2
    exact fun b hb => List.all_eq_true.1 h2 b hb
  refine ⟨h1, fun e => h3 ?_, fun hm => ?_, fun hm => ?_⟩
  · rw [← size_list, e]; rfl
  · have := hall 32 hm; revert this; decide
  · have := hall 10 hm; revert this; decide

/-- How the words stand in the line and in the lines. -/
structure Back (line lines : ByteArray) (W : List ByteArray) : Prop where
  words : wordsL line.data.toList = W.map (·.data.toList)
  lns : Lns lines.data.toList (W.map (·.data.toList))

theorem cat_list (a b : ByteArray) : (a ++ b).data.toList = a.data.toList ++ b.data.toList := by simp
theorem cat_size (a b : ByteArray) : (a ++ b).size = a.size + b.size := by simp

theorem Back.put {ln l2 lns x : ByteArray} {W : List ByteArray} (h : Back ln lns W) (h2 : wordsL l2.data.toList = wordsL ln.data.toList) (h3 : ∃ y, l2.data.toList = y ++ [32]) (hx : isWord x = true) :
    Back (l2 ++ x) (lns ++ (x ++ ⟨#[10]⟩)) (W ++ [x]) := by
  obtain ⟨c1, c2, c3, c4⟩ := word_clean hx
  obtain ⟨y, hy⟩ := h3
  refine ⟨?_, ?_⟩
  · rw [cat_list, hy, wordsL_put y _ c3 c2, ← hy, h2, h.words, List.map_append]
    rfl
  · rw [cat_list, cat_list, List.map_append]
    exact h.lns.put _ c4

theorem back_words {W : List ByteArray} {ln lns : ByteArray} (h : Back ln lns W) : wordsB ln = W := by
  unfold wordsB
  rw [h.words, List.map_map]
  have : (mk ∘ fun x : ByteArray => x.data.toList) = id := by funext x; exact mk_of x
  rw [this, List.map_id]
theorem back_lines {W : List ByteArray} {ln lns : ByteArray} (h : Back ln lns W) : linesB lns = W := by
  have e : cutB 10 lns = W ++ [mk []] := by
    unfold cutB
    rw [h.lns.1, List.map_append, List.map_map]
    have : (mk ∘ fun x : ByteArray => x.data.toList) = id := by funext x; exact mk_of x
    rw [this, List.map_id]
    rfl
  unfold linesB
  rw [e, if_pos (by
    rw [List.length_append]
    show gt (W ++ [mk []]) (W.length + 1 - 1) = _
    rw [Nat.add_sub_cancel, gt_eq (by simp)]
    simp [mk]), List.dropLast_concat]

theorem OwnT.put {B : Nat} {w : World} {v : Value} {W : List ByteArray} {x : ByteArray} (h : w.ownsRow B 9 1 v (W.length + 1) (W.map Value.string ++ [.string x])) : OwnT B w v (W ++ [x]) := by
  unfold OwnT
  rw [List.length_append, List.map_append]
  exact h

set_option maxRecDepth 20000 in
theorem back_all (l : Option Addr) (lc : Nat) (L : List ByteArray) (bl : Option Addr) (n bc : Nat) (f : Nat → Nat) (w : World) (hL : RowL w l L) (hS : Short L) (hl : L.length ≤ 9223372036854775807)
    (hB : RowB w bl n f) (hf : ∀ k, k < n → f k < 256) (hn : n ≤ 9223372036854775807) :
    Calls Tryd.prog 6 #[.slice l L.length lc, .slice bl n bc] w fun e w' => e = .returned (.bool true) ∧ Below w.heap.size w w' := by
  obtain ⟨i0, hi, hz0, hz1, hz2⟩ := info_parts info9
  obtain ⟨m, hm⟩ : ∃ m, L.length = m := ⟨_, rfl⟩
  have HM : Hd (L.length = m) := ⟨hm⟩
  have HS : Hd (Short L) := ⟨hS⟩
  have HF : Hd (∀ k, k < n → f k < 256) := ⟨hf⟩
  rw [hm] at hl ⊢
  clear hm hS hf
  go_enter Tryd.func6, Tryd.ntmps6
  go_wp2_with (go_at_call 9; refine (awake_any _).mono ?_; rintro e w1 ⟨rfl, hb1⟩)
  have hL1 := hL.carry hb1
  have hB1 := hB.carry hb1
  clear hL hB
  go_loopw [5, 6, 7, 8] (fun s5 s6 s7 i wr => ∃ (k : Nat) (ln lns : ByteArray) (W : List ByteArray), k ≤ m ∧ k ≤ 40 ∧ i = .int .i64 k ∧ s5 = .string ln ∧ s6 = .string lns ∧ Hd (Back ln lns W) ∧ ln.size ≤ 68 * k ∧ lns.size ≤ 65 * k ∧ W.length ≤ k ∧
      Hd (OwnT w1.heap.size wr s7 W) ∧ Below w1.heap.size w1 wr) (fun _ _ _ i _ => 40 - (intOf i).toNat)
  case atStart => exact ⟨0, ⟨#[]⟩, ⟨#[]⟩, [], Nat.zero_le _, Nat.zero_le _, rfl, rfl, rfl, ⟨⟨rfl, Lns.nil⟩⟩, Nat.le_refl _, Nat.le_refl _, Nat.le_refl _, ⟨⟨rfl, .inl ⟨rfl, rfl⟩⟩⟩, Below.refl _ _⟩
  case round =>
    obtain ⟨k, ln, lns, W, hk, hk40, rfl, rfl, rfl, hBk, hln, hlns, hW, hown, p3⟩ := hrel
    by_cases hlt : k < m ∧ k < 40
    · obtain ⟨hlt, hlt40⟩ := hlt
      have hlt' : k < L.length := by rw [HM.out]; exact hlt
      obtain ⟨b1, o1, rfl, hbb1, hc1⟩ := hL1 (by omega)
      have hcell := (p3.cell (p := ⟨b1, o1 + k, none⟩) hbb1).trans (hc1 k hlt')
      have WD := word_ok (gt L k) (HS.out k hlt')
      clear hc1
      cases hw : isWord (gt L k) with
      | false =>
        rw [hw] at WD
        clear hw HM HS
        generalize gt L k = x at *
        go_wp2_with (go_at_call 28; refine (WD _).mono ?_; rintro e w' ⟨rfl, hw⟩; obtain rfl := hw.symm)
        go_roundw
        case rel => exact ⟨k + 1, ln, lns, W, by omega, by omega, by go_num, rfl, rfl, hBk, by omega, by omega, by omega, hown, p3⟩
        case measure => simp [intOf]; omega
      | true =>
        rw [hw] at WD
        by_cases hkn : k < n
        · obtain ⟨b2, o2, rfl, hbb2, hc2⟩ := hB1 (by omega)
          have hcell2 := (p3.cell (p := ⟨b2, o2 + k, none⟩) hbb2).trans (hc2 k hkn)
          have hfk := HF.out k hkn
          clear hc2
          have e1 : ((f k : Nat) : Int).tmod 4 = ((f k % 4 : Nat) : Int) := (Int.ofNat_tmod _ _).symm
          have ht : f k % 4 < 4 := Nat.mod_lt _ (by decide)
          have HX : Hd ((gt L k).size ≤ 64) := ⟨(word_clean hw).1⟩
          have HW : Hd (isWord (gt L k) = true) := ⟨hw⟩
          clear hw
          generalize gt L k = x at *
          generalize f k % 4 = t at *
          generalize f k = fk at *
          go_wp2_with (go_at_call 28; refine (WD _).mono ?_; rintro e w' ⟨rfl, hw⟩; obtain rfl := hw.symm)
          clear WD
          go_loop [5, 40] (fun s5 j => ∃ (jj : Nat) (l2 : ByteArray), jj ≤ (1 + t) ∧ j = .int .i64 jj ∧ s5 = .string l2 ∧ Hd (wordsL l2.data.toList = wordsL ln.data.toList ∧ (0 < jj → ∃ y, l2.data.toList = y ++ [32])) ∧ l2.size = ln.size + jj) (fun _ j => (1 + t) - (intOf j).toNat)
          case atStart => exact ⟨0, ln, Nat.zero_le _, rfl, rfl, ⟨rfl, fun h => absurd h (Nat.lt_irrefl 0)⟩, rfl⟩
          case round =>
            obtain ⟨jj, l2, hjj, rfl, rfl, h2, hs2⟩ := hrel
            by_cases hjl : jj < (1 + t)
            · go_wp2
              go_round
              case rel =>
                refine ⟨jj + 1, _, by omega, by go_num, rfl, ⟨?_, fun _ => ⟨l2.data.toList, ?_⟩⟩, ?_⟩
                · rw [cat_list]; exact (wordsL_snoc _).trans h2.out.1
                · rw [cat_list]
                · rw [cat_size, hs2]; rfl
              case measure => simp [intOf]; omega
            · obtain rfl : jj = (1 + t) := by omega
              have hBk' : Hd (Back (l2 ++ x) (lns ++ (x ++ ⟨#[10]⟩)) (W ++ [x])) := ⟨hBk.out.put h2.out.1 (h2.out.2 (by omega)) HW.out⟩
              have hx64 := HX.out
              have hz1' : (l2 ++ x).size ≤ 68 * (k + 1) := by rw [cat_size]; omega
              have hz2' : (lns ++ (x ++ ⟨#[10]⟩)).size ≤ 65 * (k + 1) := by
                rw [cat_size, cat_size]
                have : (⟨#[10]⟩ : ByteArray).size = 1 := rfl
                omega
              have HZ : Hd ((l2 ++ x).size ≤ 68 * (k + 1) ∧ (lns ++ (x ++ ⟨#[10]⟩)).size ≤ 65 * (k + 1)) := ⟨hz1', hz2'⟩
              clear hz1' hz2' h2 hBk
              go_wp2_with (at_builtin; refine wpList_append_own _ rfl _ _ 24 rfl w1.heap.size 9 i0 (.string ByteArray.empty) 1 16 Tryd.underlying24 hi hz0 hz1 hz2 rfl (by decide) _ _ _ rfl (hown.out.alloc _) ⟨wr.heap.size, 0, none⟩ 1 1 [.string x] rfl rfl (one_newT _ _) (one_cellT _) (by unfold maxLen; omega) (by omega) (by simp; have := p3.size; omega) ?_; intro v' w2 hown' hgrow _)
              have P4 : Hd (Below w1.heap.size w1 w2) := ⟨(p3.alloc p3.size _).grown hgrow (by simp; have := p3.size; omega) (fun j hj => (hown.out.lt j hj).1)⟩
              have O4 : Hd (OwnT w1.heap.size w2 v' (W ++ [x])) := ⟨OwnT.put hown'⟩
              clear hown' hgrow hown p3
              go_roundw
              case rel => exact ⟨k + 1, _, _, W ++ [x], by omega, by omega, by go_num, rfl, rfl, hBk', HZ.out.1, HZ.out.2, by simp; omega, O4, P4.out⟩
              case measure => simp [intOf]; omega
        · have HX : Hd ((gt L k).size ≤ 64) := ⟨(word_clean hw).1⟩
          have HW : Hd (isWord (gt L k) = true) := ⟨hw⟩
          clear hw
          generalize gt L k = x at *
          go_wp2_with (go_at_call 28; refine (WD _).mono ?_; rintro e w' ⟨rfl, hw⟩; obtain rfl := hw.symm)
          clear WD
          go_loop [5, 40] (fun s5 j => ∃ (jj : Nat) (l2 : ByteArray), jj ≤ 1 ∧ j = .int .i64 jj ∧ s5 = .string l2 ∧ Hd (wordsL l2.data.toList = wordsL ln.data.toList ∧ (0 < jj → ∃ y, l2.data.toList = y ++ [32])) ∧ l2.size = ln.size + jj) (fun _ j => 1 - (intOf j).toNat)
          case atStart => exact ⟨0, ln, Nat.zero_le _, rfl, rfl, ⟨rfl, fun h => absurd h (Nat.lt_irrefl 0)⟩, rfl⟩
          case round =>
            obtain ⟨jj, l2, hjj, rfl, rfl, h2, hs2⟩ := hrel
            by_cases hjl : jj < 1
            · go_wp2
              go_round
              case rel =>
                refine ⟨jj + 1, _, by omega, by go_num, rfl, ⟨?_, fun _ => ⟨l2.data.toList, ?_⟩⟩, ?_⟩
                · rw [cat_list]; exact (wordsL_snoc _).trans h2.out.1
                · rw [cat_list]
                · rw [cat_size, hs2]; rfl
              case measure => simp [intOf]; omega
            · obtain rfl : jj = 1 := by omega
              have hBk' : Hd (Back (l2 ++ x) (lns ++ (x ++ ⟨#[10]⟩)) (W ++ [x])) := ⟨hBk.out.put h2.out.1 (h2.out.2 (by omega)) HW.out⟩
              have hx64 := HX.out
              have hz1' : (l2 ++ x).size ≤ 68 * (k + 1) := by rw [cat_size]; omega
              have hz2' : (lns ++ (x ++ ⟨#[10]⟩)).size ≤ 65 * (k + 1) := by
                rw [cat_size, cat_size]
                have : (⟨#[10]⟩ : ByteArray).size = 1 := rfl
                omega
              have HZ : Hd ((l2 ++ x).size ≤ 68 * (k + 1) ∧ (lns ++ (x ++ ⟨#[10]⟩)).size ≤ 65 * (k + 1)) := ⟨hz1', hz2'⟩
              clear hz1' hz2' h2 hBk
              go_wp2_with (at_builtin; refine wpList_append_own _ rfl _ _ 24 rfl w1.heap.size 9 i0 (.string ByteArray.empty) 1 16 Tryd.underlying24 hi hz0 hz1 hz2 rfl (by decide) _ _ _ rfl (hown.out.alloc _) ⟨wr.heap.size, 0, none⟩ 1 1 [.string x] rfl rfl (one_newT _ _) (one_cellT _) (by unfold maxLen; omega) (by omega) (by simp; have := p3.size; omega) ?_; intro v' w2 hown' hgrow _)
              have P4 : Hd (Below w1.heap.size w1 w2) := ⟨(p3.alloc p3.size _).grown hgrow (by simp; have := p3.size; omega) (fun j hj => (hown.out.lt j hj).1)⟩
              have O4 : Hd (OwnT w1.heap.size w2 v' (W ++ [x])) := ⟨OwnT.put hown'⟩
              clear hown' hgrow hown p3
              go_roundw
              case rel => exact ⟨k + 1, _, _, W ++ [x], by omega, by omega, by go_num, rfl, rfl, hBk', HZ.out.1, HZ.out.2, by simp; omega, O4, P4.out⟩
              case measure => simp [intOf]; omega
    · by_cases hkm : k < m
      · obtain rfl : k = 40 := by omega
        have CW := words_ok ln
        have CL := lines_ok lns
        rw [back_words hBk.out] at CW
        rw [back_lines hBk.out] at CL
        have hln' : ln.size ≤ 4294967296 := by omega
        have hlns' : lns.size < 4294967281 := by omega
        obtain ⟨wa, wc, rfl, hrW⟩ := hown.out.shape
        have HRW : Hd (RowL wr wa W) := ⟨hrW⟩
        have hWl : W.length ≤ 9223372036854775807 := by omega
        have b0 : Below w.heap.size w wr := hb1.trans (p3.mono hb1.size)
        have B0 : Hd (Below w.heap.size w wr) := ⟨b0⟩
        clear hown hBk hrW b0 hL1 hB1 HM HS HF hb1 p3
        go_wp2_with fail
        go_at_call 13
        refine (CW _ hln').mono ?_
        rintro e w2 ⟨a2, c2, rfl, hr2, hb2⟩
        have S1 := same_yes a2 wa c2 wc W W w2 hr2 (HRW.out.carry hb2) hWl rfl
        clear hr2
        go_wp2_with fail
        go_at_call 10
        refine S1.mono ?_
        rintro e w3 ⟨rfl, hb3⟩
        have C23 : Hd (Below wr.heap.size wr w3) := ⟨hb2.trans (hb3.mono hb2.size)⟩
        clear hb2 hb3 S1
        go_wp2_with fail
        go_at_call 11
        refine (CL _ hlns').mono ?_
        rintro e w4 ⟨a4, c4, rfl, hr4, hb4⟩
        have C24 : Hd (Below wr.heap.size wr w4) := ⟨C23.out.trans (hb4.mono C23.out.size)⟩
        have S2 := same_yes a4 wa c4 wc W W w4 hr4 (HRW.out.carry C24.out) hWl rfl
        clear hr4 hb4
        go_wp2_with fail
        go_at_call 10
        refine S2.mono ?_
        rintro e w5 ⟨rfl, hb5⟩
        go_wp2
        go_ret
        have C25 : Below wr.heap.size wr w5 := C24.out.trans (hb5.mono C24.out.size)
        exact ⟨rfl, B0.out.trans (C25.mono B0.out.size)⟩
      · obtain rfl : k = m := by omega
        have CW := words_ok ln
        have CL := lines_ok lns
        rw [back_words hBk.out] at CW
        rw [back_lines hBk.out] at CL
        have hln' : ln.size ≤ 4294967296 := by omega
        have hlns' : lns.size < 4294967281 := by omega
        obtain ⟨wa, wc, rfl, hrW⟩ := hown.out.shape
        have HRW : Hd (RowL wr wa W) := ⟨hrW⟩
        have hWl : W.length ≤ 9223372036854775807 := by omega
        have b0 : Below w.heap.size w wr := hb1.trans (p3.mono hb1.size)
        have B0 : Hd (Below w.heap.size w wr) := ⟨b0⟩
        clear hown hBk hrW b0 hL1 hB1 HM HS HF hb1 p3
        go_wp2_with fail
        go_at_call 13
        refine (CW _ hln').mono ?_
        rintro e w2 ⟨a2, c2, rfl, hr2, hb2⟩
        have S1 := same_yes a2 wa c2 wc W W w2 hr2 (HRW.out.carry hb2) hWl rfl
        clear hr2
        go_wp2_with fail
        go_at_call 10
        refine S1.mono ?_
        rintro e w3 ⟨rfl, hb3⟩
        have C23 : Hd (Below wr.heap.size wr w3) := ⟨hb2.trans (hb3.mono hb2.size)⟩
        clear hb2 hb3 S1
        go_wp2_with fail
        go_at_call 11
        refine (CL _ hlns').mono ?_
        rintro e w4 ⟨a4, c4, rfl, hr4, hb4⟩
        have C24 : Hd (Below wr.heap.size wr w4) := ⟨C23.out.trans (hb4.mono C23.out.size)⟩
        have S2 := same_yes a4 wa c4 wc W W w4 hr4 (HRW.out.carry C24.out) hWl rfl
        clear hr4 hb4
        go_wp2_with fail
        go_at_call 10
        refine S2.mono ?_
        rintro e w5 ⟨rfl, hb5⟩
        go_wp2
        go_ret
        have C25 : Below wr.heap.size wr w5 := C24.out.trans (hb5.mono C24.out.size)
        exact ⟨rfl, B0.out.trans (C25.mono B0.out.size)⟩

end Go.Proofs.YtaedgkaldafbbaaDoor
