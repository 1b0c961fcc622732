/-
  'ConfLines': the walk. Conditions: the frame's; errorType holds what its text lays.
-/
import Derived.Test.YtaodckojinbdfaaDoorLawC
import Derived.Test.YtaodckojinbdfaaDoorMathN
import Derived.Test.YtaodckojinbdfaaDoorRowT
import Derived.Test.YtaodckojinbdfaaDoorSameB
import Derived.Deep.RegionHeld
namespace Go.Proofs.YtaodckojinbdfaaDoor
open Go.RowKit

theorem one_new (w : World) (x : Int) : ∀ j u, ([.int .i64 x] : List Value)[j]? = some u → (w.alloc (.cells #[.int .i64 x] 3)).cell? ((⟨w.heap.size, 0, none⟩ : Addr).add j) = some u := by
  intro j u hj
  match j, hj with
  | 0, hj => simp at hj; subst hj; simp [Addr.add]
theorem one_cell (x : Int) : ∀ u ∈ ([.int .i64 x] : List Value), u.oneCell' = true := by
  intro u hu; simp at hu; subst hu; rfl
theorem info3 : (Tryd.prog.info? 3).map (fun i => (i.zero, i.size, i.bytes)) = some (some (.int .i64 0), 1, 8) := by kernel_rfl
/-- A list of numbers in memory of its own. -/
def OwnN (B : Nat) (w : World) (v : Value) (l : List Int) : Prop := w.ownsRow B 3 1 v l.length (l.map (Value.int .i64))
theorem OwnN.put {B : Nat} {w : World} {v : Value} {l : List Int} {x : Int} (h : w.ownsRow B 3 1 v (l.length + 1) (l.map (Value.int .i64) ++ [.int .i64 x])) : OwnN B w v (l ++ [x]) := by
  unfold OwnN
  rw [List.length_append, List.map_append]
  exact h

theorem CfV.grown {B : Nat} {w w' : World} {v : Value} {C : Cf} (h : CfV B w v C) (b : Below w.heap.size w w') : CfV B w' v C := by
  obtain ⟨vL, vS, V, e, hL, hS⟩ := h
  have k : Kept (fun _ => False) w w' := Kept.of_below b _
  have f : ∀ t, Off t (fun _ => False) w := fun _ _ _ _ _ => id
  exact ⟨vL, vS, V, e, hL.off k (f _), hS.off k (f _) (f _) (f _)⟩
/-- The course of the making. -/
structure Mk (w2 wr : World) (L M : List ByteArray) (at_ : List Int) (v : Value) (j q : Nat) : Prop where
  lng : Lng L M at_ j q
  own : OwnN w2.heap.size wr v at_
  bel : Below w2.heap.size w2 wr


set_option maxRecDepth 20000 in
set_option maxHeartbeats 4000000 in
theorem lines_all (s : ByteArray) (ea : Option Addr) (m ec : Nat) (f : Nat → Nat) (w : World) (hs : s.size ≤ maxLen) (hB : RowB w ea m f) (hf : ∀ k, k < m → f k < 256) (hm : m ≤ maxLen) (he : ET w) :
    Calls Tryd.prog 3 #[.string s, .slice ea m ec] w fun e w' => e = .returned (.bool true) ∧ Below w.heap.size w w' := by
  obtain ⟨i0, hi, hz0, hz1, hz2⟩ := info_parts info3
  have AW := awake_any w
  have hsz : s.size ≤ 9223372036854775807 := by unfold maxLen at hs; omega
  have hm9 : m ≤ 9223372036854775807 := by unfold maxLen at hm; omega
  clear hs hm
  by_cases h8 : 8000 < s.size
  · clear he hB
    go_enter Tryd.func3, Tryd.ntmps3
    go_wp2_with (go_at_call 7; refine AW.mono ?_; rintro e w1 ⟨rfl, b1⟩)
    go_ret
    exact ⟨rfl, b1⟩
  have hlen := lines_len s
  have hglen := glen_lines s
  have hclean := lines_clean s
  have hPe : parE s = goE cf0 (linesB s) := by unfold parE; rw [if_neg (by omega)]
  have hPl : parL s = goL cf0 0 (linesB s) := by unfold parL; rw [if_neg (by omega)]
  have hPc : parC s = goC cf0 (linesB s) := by unfold parC; rw [if_neg (by omega)]
  have RL := fun w => rlines_ok s w (by omega)
  have PT := parse_some s (by omega)
  rw [hPe, hPl, hPc] at PT
  generalize linesB s = L at *
  obtain ⟨n, hn⟩ : ∃ n, n = L.length := ⟨_, rfl⟩
  rw [← hn] at RL hlen
  have HN : Hd (n = L.length) := ⟨hn⟩
  have HE : Hd (ET w) := ⟨he⟩
  have hn8 : n ≤ 8001 := by omega
  have HG : Hd (∀ j, glen (L.take j) ≤ 8001) := ⟨fun j => by have := glen_take L j; omega⟩
  have HLS : Hd (∀ j, j < n → (gt L j).size ≤ 8001 ∧ (10 : UInt8) ∉ (gt L j).data.toList) := ⟨fun j hj => by
    have hjL : j < L.length := by rw [← HN.out]; exact hj
    refine ⟨?_, hclean _ (gt_mem hjL)⟩
    have h2 := HG.out (j + 1)
    rw [List.take_succ_eq_append_getElem hjL, glen_append, ← gt_eq hjL] at h2
    have h3 : glen [gt L j] = (gt L j).size + 1 + 0 := rfl
    omega⟩
  have HB : Hd (RowB w ea m f ∧ ∀ k, k < m → f k < 256) := ⟨hB, hf⟩
  clear hn hPe hPl hPc he hB hf hclean hglen hlen
  go_enter Tryd.func3, Tryd.ntmps3
  go_wp2_with (first
    | (go_at_call 7; refine AW.mono ?_; rintro e w1 ⟨rfl, b1⟩)
    | (go_at_call 8; refine (RL _).mono ?_; rintro e w2 ⟨a, c, rfl, hrow, b2⟩))
  have B2 : Hd (Below w.heap.size w w2) := ⟨b1.trans (b2.mono b1.size)⟩
  have ROW : Hd (RowL w2 a L) := ⟨hrow⟩
  have M0 : Hd (Mk w2 (w2.alloc (.cells #[] 3)) L [] [] (.slice (some ⟨w2.heap.size, 0, none⟩) 0 0) 0 0) := ⟨Lng.start L, World.ownsRow_made w2 #[] 0 (Nat.le_refl _) (Nat.zero_le _) rfl, (Below.refl _ _).alloc (Nat.le_refl _) _⟩
  clear b1 b2 hrow AW RL
  go_loopw [6, 7, 8] (fun x v i wr => ∃ (j : Nat) (M : List ByteArray) (at_ : List Int), j ≤ n ∧ i = .int .i64 j ∧ x = .string (glue M) ∧ Hd (Mk w2 wr L M at_ v j 0)) (fun _ _ i _ => n - (intOf i).toNat)
  case atStart => exact ⟨0, [], [], Nat.zero_le _, rfl, rfl, M0⟩
  case round =>
    obtain ⟨j, M, at_, hj, rfl, rfl, hM⟩ := hrel
    clear M0
    by_cases hlt : j < n
    · have hjL : Hd (j < L.length) := ⟨by rw [← HN.out]; exact hlt⟩
      have HJ : Hd (j < n) := ⟨hlt⟩
      obtain ⟨b, off, rfl, hbl, hcs⟩ := ROW.out (by have := hjL.out; omega)
      have CELL : Hd (∀ W, Below w2.heap.size w2 W → W.cell? ⟨b, off + j, none⟩ = some (.string (gt L j))) := ⟨fun W bW => (bW.cell (p := ⟨b, off + j, none⟩) hbl).trans (hcs j hjL.out)⟩
      obtain ⟨xs, xc⟩ := HLS.out j hlt
      obtain ⟨x, hx⟩ : ∃ x, x = gt L j := ⟨_, rfl⟩
      have HX : Hd (gt L j = x) := ⟨hx.symm⟩
      rw [← hx] at xs xc CELL
      clear hcs hx PT
      by_cases hjm : j < m
      · obtain ⟨eb, eo, rfl, hebl, hecs⟩ := HB.out.1 (by omega)
        have ecell : wr.cell? ⟨eb, eo + j, none⟩ = some (.int .u8 (f j : Nat)) := ((B2.out.trans (hM.out.bel.mono B2.out.size)).cell (p := ⟨eb, eo + j, none⟩) hebl).trans (hecs j hjm)
        have hfk := HB.out.2 j hjm
        clear hecs
        generalize f j = kb at *
        have r1 : (kb : Int).tmod 3 = ((kb % 3 : Nat) : Int) := (Int.ofNat_tmod _ _).symm
        have r2 : (kb : Int).tdiv 3 = ((kb / 3 : Nat) : Int) := (Int.ofNat_tdiv _ _).symm
        have r3 : ((kb / 3 : Nat) : Int).tmod 2 = ((kb / 3 % 2 : Nat) : Int) := (Int.ofNat_tmod _ _).symm
        have r4 : (kb : Int).tdiv 6 = ((kb / 6 : Nat) : Int) := (Int.ofNat_tdiv _ _).symm
        have r5 : ((kb / 6 : Nat) : Int).tmod 2 = ((kb / 6 % 2 : Nat) : Int) := (Int.ofNat_tmod _ _).symm
        have hr2 : kb % 3 ≤ 2 := by omega
        have hy3 : kb / 3 < 256 := by omega
        have hy6 : kb / 6 < 256 := by omega
        have ht : kb / 3 % 2 = 0 ∨ kb / 3 % 2 = 1 := by omega
        have hp : kb / 6 % 2 = 0 ∨ kb / 6 % 2 = 1 := by omega
        generalize kb / 3 % 2 = t at *
        generalize kb / 6 % 2 = p at *
        generalize kb % 3 = r at *
        generalize kb / 3 = y3 at *
        generalize kb / 6 = y6 at *
        go_wp2_with fail
        go_loopw [6, 7, 10] (fun x v i wr1 => ∃ (q : Nat) (M1 : List ByteArray) (at1 : List Int), q ≤ r ∧ i = .int .i64 q ∧ x = .string (glue M1) ∧ Hd (Mk w2 wr1 L M1 at1 v j q)) (fun _ _ i _ => r - (intOf i).toNat)
        case atStart => exact ⟨0, M, at_, Nat.zero_le _, rfl, rfl, hM⟩
        case round =>

          obtain ⟨q, M1, at1, hq, rfl, rfl, hM1⟩ := hrel
          clear hM ecell
          by_cases hqr : q < r
          · rcases ht with rfl | rfl
            · have EX : Hd (glue M1 ++ ⟨#[32, 32, 10]⟩ = glue (M1 ++ [nil1])) := ⟨by rw [← glue_line]; rfl⟩
              have LN : Hd (Lng L (M1 ++ [nil1]) (at1 ++ [0]) j (q + 1)) := ⟨hM1.out.lng.idle silent1 (by decide) (by decide)⟩
              have own := hM1.out.own
              have cnt := hM1.out.lng.count
              have ln := hM1.out.lng.inv.len
              have lsz := hM1.out.lng.size
              have gl := HG.out j
              have BL := hM1.out.bel
              have bsz := BL.size
              have hA : at1.length ≤ 30000 := by omega
              have hG : (glue M1).size ≤ 500000 := by omega
              have HBL : Hd (Below w2.heap.size w2 wr) := ⟨BL⟩
              have HQ : Hd (q < r) := ⟨hqr⟩
              unfold OwnN at own
              clear cnt ln lsz gl BL hM1
              generalize glue M1 = gM at *
              obtain ⟨nat, hnat⟩ : ∃ nat, nat = at1.length := ⟨_, rfl⟩
              rw [← hnat] at own hA
              have HNAT : Hd (at1.length = nat) := ⟨hnat.symm⟩
              clear hnat
              go_wp2_with (at_builtin; refine wpList_append_own _ rfl _ _ 26 rfl w2.heap.size 3 i0 (.int .i64 0) 1 8 Tryd.underlying26 hi hz0 hz1 hz2 rfl (by decide) _ _ _ rfl (World.ownsRow.alloc own _) ⟨wr.heap.size, 0, none⟩ 1 1 [.int .i64 0] rfl rfl (one_new _ _) (one_cell _) (by unfold maxLen; omega) (by omega) (by simp; omega) ?_; intro v' w3 hown' hgrow _)
              have P4 : Hd (Below w2.heap.size w2 w3) := ⟨(HBL.out.alloc HBL.out.size _).grown hgrow (by simp; omega) (fun k hk => (own.lt k hk).1)⟩
              have O4 : Hd (OwnN w2.heap.size w3 v' (at1 ++ [0])) := ⟨OwnN.put (by rw [HNAT.out]; exact hown')⟩
              go_roundw
              case rel => exact ⟨q + 1, _, _, HQ.out, by go_num, by rw [EX.out], ⟨LN.out, O4.out, P4.out⟩⟩
              case measure => have := HQ.out; simp [intOf]; omega
            · have EX : Hd (glue M1 ++ ⟨#[32, 35, 32, 108, 101, 118, 101, 108, 32, 120, 32, 101, 120, 101, 109, 112, 116, 10]⟩ = glue (M1 ++ [nil2])) := ⟨by rw [← glue_line]; rfl⟩
              have LN : Hd (Lng L (M1 ++ [nil2]) (at1 ++ [0]) j (q + 1)) := ⟨hM1.out.lng.idle silent2 (by decide) (by decide)⟩
              have own := hM1.out.own
              have cnt := hM1.out.lng.count
              have ln := hM1.out.lng.inv.len
              have lsz := hM1.out.lng.size
              have gl := HG.out j
              have BL := hM1.out.bel
              have bsz := BL.size
              have hA : at1.length ≤ 30000 := by omega
              have hG : (glue M1).size ≤ 500000 := by omega
              have HBL : Hd (Below w2.heap.size w2 wr) := ⟨BL⟩
              have HQ : Hd (q < r) := ⟨hqr⟩
              unfold OwnN at own
              clear cnt ln lsz gl BL hM1
              generalize glue M1 = gM at *
              obtain ⟨nat, hnat⟩ : ∃ nat, nat = at1.length := ⟨_, rfl⟩
              rw [← hnat] at own hA
              have HNAT : Hd (at1.length = nat) := ⟨hnat.symm⟩
              clear hnat
              go_wp2_with (at_builtin; refine wpList_append_own _ rfl _ _ 26 rfl w2.heap.size 3 i0 (.int .i64 0) 1 8 Tryd.underlying26 hi hz0 hz1 hz2 rfl (by decide) _ _ _ rfl (World.ownsRow.alloc own _) ⟨wr.heap.size, 0, none⟩ 1 1 [.int .i64 0] rfl rfl (one_new _ _) (one_cell _) (by unfold maxLen; omega) (by omega) (by simp; omega) ?_; intro v' w3 hown' hgrow _)
              have P4 : Hd (Below w2.heap.size w2 w3) := ⟨(HBL.out.alloc HBL.out.size _).grown hgrow (by simp; omega) (fun k hk => (own.lt k hk).1)⟩
              have O4 : Hd (OwnN w2.heap.size w3 v' (at1 ++ [0])) := ⟨OwnN.put (by rw [HNAT.out]; exact hown')⟩
              go_roundw
              case rel => exact ⟨q + 1, _, _, HQ.out, by go_num, by rw [EX.out], ⟨LN.out, O4.out, P4.out⟩⟩
              case measure => have := HQ.out; simp [intOf]; omega
          · obtain rfl : r = q := by omega
            have cell := CELL.out wr hM1.out.bel
            rcases hp with rfl | rfl
            · have EX : Hd (glue M1 ++ (x ++ ⟨#[32, 32, 10]⟩) = glue (M1 ++ [(x ++ bl2)])) := ⟨by
                rw [← glue_line]
                refine list_inj ?_
                simp only [cat_list, List.append_assoc]
                rfl⟩
              have hw : wordsB (x ++ bl2) = wordsB x := by rw [words_behind]
              have hc : (10 : UInt8) ∉ (x ++ bl2).data.toList := by
                simp only [cat_list, List.mem_append, not_or]
                exact ⟨xc, by decide⟩
              have hs5 : (x ++ bl2).size ≤ (gt L j).size + 5 := by rw [cat_size, HX.out]; have h2 : bl2.size = 2 := rfl; omega
              have LN : Hd (Lng L (M1 ++ [(x ++ bl2)]) (at1 ++ [(j : Int) + 1]) (j + 1) 0) := ⟨hM1.out.lng.next hjL.out hr2 (by rw [HX.out]; exact hw) hc hs5⟩
              have own := hM1.out.own
              have cnt := hM1.out.lng.count
              have ln := hM1.out.lng.inv.len
              have lsz := hM1.out.lng.size
              have gl := HG.out j
              have BL := hM1.out.bel
              have bsz := BL.size
              have hA : at1.length ≤ 30000 := by omega
              have hG : (glue M1).size ≤ 500000 := by omega
              have HBL : Hd (Below w2.heap.size w2 wr) := ⟨BL⟩
              unfold OwnN at own
              clear hw hc hs5 cnt ln lsz gl BL hM1
              generalize glue M1 = gM at *
              obtain ⟨nat, hnat⟩ : ∃ nat, nat = at1.length := ⟨_, rfl⟩
              rw [← hnat] at own hA
              have HNAT : Hd (at1.length = nat) := ⟨hnat.symm⟩
              clear hnat
              go_wp2_with (at_builtin; refine wpList_append_own _ rfl _ _ 26 rfl w2.heap.size 3 i0 (.int .i64 0) 1 8 Tryd.underlying26 hi hz0 hz1 hz2 rfl (by decide) _ _ _ rfl (World.ownsRow.alloc own _) ⟨wr.heap.size, 0, none⟩ 1 1 [.int .i64 ((j : Int) + 1)] rfl rfl (one_new _ _) (one_cell _) (by unfold maxLen; omega) (by omega) (by simp; omega) ?_; intro v' w3 hown' hgrow _)
              have P4 : Hd (Below w2.heap.size w2 w3) := ⟨(HBL.out.alloc HBL.out.size _).grown hgrow (by simp; omega) (fun k hk => (own.lt k hk).1)⟩
              have O4 : Hd (OwnN w2.heap.size w3 v' (at1 ++ [(j : Int) + 1])) := ⟨OwnN.put (by rw [HNAT.out]; exact hown')⟩
              go_roundw
              case rel => exact ⟨j + 1, _, _, HJ.out, by go_num, by rw [EX.out], ⟨LN.out, O4.out, P4.out⟩⟩
              case measure => have := HJ.out; simp [intOf]; omega
            · have EX : Hd ((glue M1 ++ ⟨#[32, 32, 32]⟩) ++ (x ++ ⟨#[32, 32, 10]⟩) = glue (M1 ++ [(bl3 ++ (x ++ bl2))])) := ⟨by
                rw [← glue_line]
                refine list_inj ?_
                simp only [cat_list, List.append_assoc]
                rfl⟩
              have hw : wordsB (bl3 ++ (x ++ bl2)) = wordsB x := by rw [words_ahead, words_behind]
              have hc : (10 : UInt8) ∉ (bl3 ++ (x ++ bl2)).data.toList := by
                simp only [cat_list, List.mem_append, not_or]
                exact ⟨by decide, xc, by decide⟩
              have hs5 : (bl3 ++ (x ++ bl2)).size ≤ (gt L j).size + 5 := by rw [cat_size, cat_size, HX.out]; have h1 : bl3.size = 3 := rfl; have h2 : bl2.size = 2 := rfl; omega
              have LN : Hd (Lng L (M1 ++ [(bl3 ++ (x ++ bl2))]) (at1 ++ [(j : Int) + 1]) (j + 1) 0) := ⟨hM1.out.lng.next hjL.out hr2 (by rw [HX.out]; exact hw) hc hs5⟩
              have own := hM1.out.own
              have cnt := hM1.out.lng.count
              have ln := hM1.out.lng.inv.len
              have lsz := hM1.out.lng.size
              have gl := HG.out j
              have BL := hM1.out.bel
              have bsz := BL.size
              have hA : at1.length ≤ 30000 := by omega
              have hG : (glue M1).size ≤ 500000 := by omega
              have HBL : Hd (Below w2.heap.size w2 wr) := ⟨BL⟩
              unfold OwnN at own
              clear hw hc hs5 cnt ln lsz gl BL hM1
              generalize glue M1 = gM at *
              obtain ⟨nat, hnat⟩ : ∃ nat, nat = at1.length := ⟨_, rfl⟩
              rw [← hnat] at own hA
              have HNAT : Hd (at1.length = nat) := ⟨hnat.symm⟩
              clear hnat
              go_wp2_with (at_builtin; refine wpList_append_own _ rfl _ _ 26 rfl w2.heap.size 3 i0 (.int .i64 0) 1 8 Tryd.underlying26 hi hz0 hz1 hz2 rfl (by decide) _ _ _ rfl (World.ownsRow.alloc own _) ⟨wr.heap.size, 0, none⟩ 1 1 [.int .i64 ((j : Int) + 1)] rfl rfl (one_new _ _) (one_cell _) (by unfold maxLen; omega) (by omega) (by simp; omega) ?_; intro v' w3 hown' hgrow _)
              have P4 : Hd (Below w2.heap.size w2 w3) := ⟨(HBL.out.alloc HBL.out.size _).grown hgrow (by simp; omega) (fun k hk => (own.lt k hk).1)⟩
              have O4 : Hd (OwnN w2.heap.size w3 v' (at1 ++ [(j : Int) + 1])) := ⟨OwnN.put (by rw [HNAT.out]; exact hown')⟩
              go_roundw
              case rel => exact ⟨j + 1, _, _, HJ.out, by go_num, by rw [EX.out], ⟨LN.out, O4.out, P4.out⟩⟩
              case measure => have := HJ.out; simp [intOf]; omega
      · have cell := CELL.out wr hM.out.bel
        have hjm' : ¬ (j : Int) < (m : Int) := by omega
        go_wp2_with fail
        refine wp_loop_rounds 1 ?_
        rw [rounds_succ]
        have EX : Hd (glue M ++ (x ++ ⟨#[32, 32, 10]⟩) = glue (M ++ [(x ++ bl2)])) := ⟨by
          rw [← glue_line]
          refine list_inj ?_
          simp only [cat_list, List.append_assoc]
          rfl⟩
        have hw : wordsB (x ++ bl2) = wordsB x := by rw [words_behind]
        have hc : (10 : UInt8) ∉ (x ++ bl2).data.toList := by
          simp only [cat_list, List.mem_append, not_or]
          exact ⟨xc, by decide⟩
        have hs5 : (x ++ bl2).size ≤ (gt L j).size + 5 := by rw [cat_size, HX.out]; have h2 : bl2.size = 2 := rfl; omega
        have LN : Hd (Lng L (M ++ [(x ++ bl2)]) (at_ ++ [(j : Int) + 1]) (j + 1) 0) := ⟨hM.out.lng.next hjL.out (Nat.zero_le _) (by rw [HX.out]; exact hw) hc hs5⟩
        have own := hM.out.own
        have cnt := hM.out.lng.count
        have ln := hM.out.lng.inv.len
        have lsz := hM.out.lng.size
        have gl := HG.out j
        have BL := hM.out.bel
        have bsz := BL.size
        have hA : at_.length ≤ 30000 := by omega
        have hG : (glue M).size ≤ 500000 := by omega
        have HBL : Hd (Below w2.heap.size w2 wr) := ⟨BL⟩
        unfold OwnN at own
        clear hw hc hs5 cnt ln lsz gl BL hM
        generalize glue M = gM at *
        obtain ⟨nat, hnat⟩ : ∃ nat, nat = at_.length := ⟨_, rfl⟩
        rw [← hnat] at own hA
        have HNAT : Hd (at_.length = nat) := ⟨hnat.symm⟩
        clear hnat
        go_wp2_with (at_builtin; refine wpList_append_own _ rfl _ _ 26 rfl w2.heap.size 3 i0 (.int .i64 0) 1 8 Tryd.underlying26 hi hz0 hz1 hz2 rfl (by decide) _ _ _ rfl (World.ownsRow.alloc own _) ⟨wr.heap.size, 0, none⟩ 1 1 [.int .i64 ((j : Int) + 1)] rfl rfl (one_new _ _) (one_cell _) (by unfold maxLen; omega) (by omega) (by simp; omega) ?_; intro v' w3 hown' hgrow _)
        have P4 : Hd (Below w2.heap.size w2 w3) := ⟨(HBL.out.alloc HBL.out.size _).grown hgrow (by simp; omega) (fun k hk => (own.lt k hk).1)⟩
        have O4 : Hd (OwnN w2.heap.size w3 v' (at_ ++ [(j : Int) + 1])) := ⟨OwnN.put (by rw [HNAT.out]; exact hown')⟩
        go_roundw
        case rel => exact ⟨j + 1, _, _, HJ.out, by go_num, by rw [EX.out], ⟨LN.out, O4.out, P4.out⟩⟩
        case measure => have := HJ.out; simp [intOf]; omega
    · obtain rfl : n = j := by omega
      have hP : L.take n = L := List.take_of_length_le (by rw [HN.out]; exact Nat.le_refl _)
      have INV := hM.out.lng.inv
      rw [hP] at INV
      have hlM : linesB (glue M) = M := lines_glue hM.out.lng.clean
      have lsz := hM.out.lng.size
      have gl := HG.out n
      have cntM := hM.out.lng.count
      have hG : (glue M).size ≤ 500000 := by omega
      have B3 : Hd (Below w.heap.size w wr) := ⟨B2.out.trans (hM.out.bel.mono B2.out.size)⟩
      by_cases hbig : 65536 < (glue M).size
      · clear PT hM INV
        generalize glue M = gM at *
        have hbig' : (65536 : Int) < (gM.size : Int) := by omega
        go_wp2_with fail
        go_ret
        exact ⟨rfl, B3.out⟩
      have PG := parse_some (glue M) (by omega)
      have qE : parE (glue M) = goE cf0 M := by unfold parE; rw [if_neg hbig, hlM]
      have qL : parL (glue M) = goL cf0 0 M := by unfold parL; rw [if_neg hbig, hlM]
      have qC : parC (glue M) = goC cf0 M := by unfold parC; rw [if_neg hbig, hlM]
      rw [qE, qL, qC, INV.same] at PG
      have OWN : OwnN w2.heap.size wr u7 at_ := hM.out.own
      have hbig' : ¬ (65536 : Int) < ((glue M).size : Int) := by omega
      clear hM lsz gl qE qL qC hlM hP
      generalize glue M = gM at *
      obtain ⟨aA, cA, rfl⟩ := own_form OWN
      have EW : ∀ w', Below w.heap.size w w' → ET w' := fun w' h => HE.out.stays h
      by_cases h1 : goE cf0 L = 0
      · have hC := INV.ok (INV.same.trans h1)
        rw [h1, err_none] at PT PG
        rw [hC] at PG
        clear INV h1 hC OWN
        generalize goC cf0 L = CC at *
        generalize at_.length = nA at *
        go_wp2_with fail
        go_at_call 9
        refine (PT _).mono ?_
        rintro e w3 ⟨aL, nL, cL, aS, nS, cS, x0, x1, x2, x3, rfl, K3, b3⟩
        clear PT
        obtain ⟨w4, hw4⟩ : ∃ w4, w4 = w3.alloc (.cells #[.int .i64 x0, .int .i64 x1, .int .i64 x2, .int .i64 x3, .slice aL nL cL, .slice aS nS cS] 30) := ⟨_, rfl⟩
        have bb4 : Below w3.heap.size w3 w4 := by rw [hw4]; exact (Below.refl _ _).alloc (Nat.le_refl _) _
        have K4 := K3.grown bb4
        have C4 : Blk w4 w3.heap.size 30 #[.int .i64 x0, .int .i64 x1, .int .i64 x2, .int .i64 x3, .slice aL nL cL, .slice aS nS cS] := by rw [hw4]; exact Blk.new w3 30 _
        have B4 : Hd (Below w.heap.size w w4) := ⟨(B3.out.trans (b3.mono B3.out.size)).trans (bb4.mono (Nat.le_trans B3.out.size b3.size))⟩
        clear b3 K3 bb4
        have HC4 : Hd _ := ⟨And.intro C4 K4⟩
        clear C4 K4
        go_wp2_with fail
        rw [← hw4]
        clear hw4
        generalize w3.heap.size = cb at *
        go_at_call 9
        refine (PG _).mono ?_
        rintro e w5 ⟨aL', nL', cL', aS', nS', cS', y0, y1, y2, y3, rfl, K5, b5⟩
        clear PG
        obtain ⟨w6, hw6⟩ : ∃ w6, w6 = w5.alloc (.cells #[.int .i64 y0, .int .i64 y1, .int .i64 y2, .int .i64 y3, .slice aL' nL' cL', .slice aS' nS' cS'] 30) := ⟨_, rfl⟩
        have bb6 : Below w5.heap.size w5 w6 := by rw [hw6]; exact (Below.refl _ _).alloc (Nat.le_refl _) _
        have K6 := K5.grown bb6
        have b46 : Below w4.heap.size w4 w6 := b5.trans (bb6.mono b5.size)
        have K6' := HC4.out.2.grown b46
        have C6 := HC4.out.1.kept (Kept.of_below b46 (fun _ => False)) id
        have D6 : Blk w6 w5.heap.size 30 #[.int .i64 y0, .int .i64 y1, .int .i64 y2, .int .i64 y3, .slice aL' nL' cL', .slice aS' nS' cS'] := by rw [hw6]; exact Blk.new w5 30 _
        have B6 : Hd (Below w.heap.size w w6) := ⟨B4.out.trans (b46.mono B4.out.size)⟩
        have SM := same_cf K6' K6
        have p0 := C6.cellv 0 rfl
        have p1 := C6.cellv 1 rfl
        have p2 := C6.cellv 2 rfl
        have p3 := C6.cellv 3 rfl
        have p4 := C6.cellv 4 rfl
        have p5 := C6.cellv 5 rfl
        clear K5 K6 K6' C6 D6 bb6 b46 b5 HC4 B4
        subst hw6
        go_wp2_with (go_at_call 10; refine SM.mono ?_; rintro e w7 ⟨rfl, b7⟩)
        go_ret
        exact ⟨rfl, B6.out.trans (b7.mono B6.out.size)⟩
      · have hMne : goE cf0 M ≠ 0 := fun h => h1 (INV.same.symm.trans h)
        have hline := INV.line hMne
        have hpos := goL_pos M cf0 0 hMne
        have hle := goL_le M cf0 0
        have hlenA := INV.len
        generalize goL cf0 0 M = l2 at *
        obtain ⟨z, rfl⟩ : ∃ z, l2 = z + 1 := ⟨l2 - 1, by omega⟩
        have CE1 := fun w h => code_err (goE cf0 L) (goL cf0 0 L) w h h1
        have LE1 := fun w h => line_err (goE cf0 L) (goL cf0 0 L) w h h1
        have CE2 := fun w h => code_err (goE cf0 L) (z + 1) w h h1
        have LE2 := fun w h => line_err (goE cf0 L) (z + 1) w h h1
        obtain ⟨u1, hu1⟩ := err_some (goL cf0 0 L) h1
        obtain ⟨u2, hu2⟩ := err_some (z + 1) h1
        rw [hu1] at PT CE1 LE1
        rw [hu2] at PG CE2 LE2
        rw [Nat.add_sub_cancel] at hline
        have hzA : z < at_.length := by omega
        obtain ⟨g, rfl, hgA, hgB⟩ : ∃ g, aA = some ⟨g, 0, none⟩ ∧ wr.cell? ⟨g, z, none⟩ = some (.int .i64 (goL cf0 0 L : Int)) ∧ g < wr.heap.size := by
          rcases id OWN.2 with ⟨_, e⟩ | ⟨g, cap, cur, e, _⟩
          · omega
          · injection e with e1 _ e3
            subst e1
            refine ⟨g, rfl, ?_, (OWN.lt g rfl).2⟩
            have OWN' : wr.ownsRow w2.heap.size 3 1 (.slice (some ⟨g, 0, none⟩) at_.length cA) at_.length (at_.map (Value.int .i64)) := OWN
            rw [OWN'.cellAt z (by omega), List.getElem?_map, hline]
            rfl
        have hz3 : z ≤ 30000 := by omega
        clear OWN INV hMne hline hpos hu1 hu2 hle hlenA cntM
        generalize goC cf0 L = CC at *
        generalize goC cf0 M = CM at *
        generalize goE cf0 L = E at *
        generalize goL cf0 0 L = l1 at *
        generalize at_.length = nA at *
        go_wp2_with fail
        go_at_call 9
        refine (PT _).mono ?_
        rintro e w3 ⟨aL, nL, cL, aS, nS, cS, x0, x1, x2, x3, rfl, -, b3⟩
        clear PT
        obtain ⟨w4, hw4⟩ : ∃ w4, w4 = w3.alloc (.cells #[.int .i64 x0, .int .i64 x1, .int .i64 x2, .int .i64 x3, .slice aL nL cL, .slice aS nS cS] 30) := ⟨_, rfl⟩
        have b4 : Below wr.heap.size wr w4 := b3.trans (by rw [hw4]; exact (Below.refl _ _).alloc b3.size _)
        have B4 : Hd (Below wr.heap.size wr w4) := ⟨b4⟩
        clear b3 b4
        go_wp2_with fail
        rw [← hw4]
        clear hw4
        go_at_call 9
        refine (PG _).mono ?_
        rintro e w5 ⟨aL', nL', cL', aS', nS', cS', y0, y1, y2, y3, rfl, -, b5⟩
        clear PG
        have b6 : Below wr.heap.size wr (w5.alloc (.cells #[.int .i64 y0, .int .i64 y1, .int .i64 y2, .int .i64 y3, .slice aL' nL' cL', .slice aS' nS' cS'] 30)) := (B4.out.trans (b5.mono B4.out.size)).alloc (Nat.le_trans B4.out.size b5.size) _
        have B6 : Hd _ := ⟨b6⟩
        clear b5 b6 B4
        have EV : ∀ w', Below wr.heap.size wr w' → ET w' := fun w' h => EW w' (B3.out.trans (h.mono B3.out.size))
        have NX : ∀ (w' w'' : World), (w'.cell? ⟨g, z, none⟩ = some (.int .i64 (l1 : Int)) ∧ Hd (Below wr.heap.size wr w')) → Below w'.heap.size w' w'' → (w''.cell? ⟨g, z, none⟩ = some (.int .i64 (l1 : Int)) ∧ Hd (Below wr.heap.size wr w'')) := fun w' w'' h b => ⟨(b.cell (p := ⟨g, z, none⟩) (Nat.lt_of_lt_of_le hgB h.2.out.size)).trans h.1, ⟨h.2.out.trans (b.mono h.2.out.size)⟩⟩
        have SC1 : ∀ W, (W.cell? ⟨g, z, none⟩ = some (.int .i64 (l1 : Int)) ∧ Hd (Below wr.heap.size wr W)) → Calls Tryd.prog 12 #[.iface 61 u1] W fun e w' => e = .returned (.int .i64 E) ∧ (w'.cell? ⟨g, z, none⟩ = some (.int .i64 (l1 : Int)) ∧ Hd (Below wr.heap.size wr w')) := fun W h => (CE1 W (EV W h.2.out)).mono fun e w' ⟨he, b⟩ => ⟨he, NX W w' h b⟩
        have SC2 : ∀ W, (W.cell? ⟨g, z, none⟩ = some (.int .i64 (l1 : Int)) ∧ Hd (Below wr.heap.size wr W)) → Calls Tryd.prog 12 #[.iface 61 u2] W fun e w' => e = .returned (.int .i64 E) ∧ (w'.cell? ⟨g, z, none⟩ = some (.int .i64 (l1 : Int)) ∧ Hd (Below wr.heap.size wr w')) := fun W h => (CE2 W (EV W h.2.out)).mono fun e w' ⟨he, b⟩ => ⟨he, NX W w' h b⟩
        have SL1 : ∀ W, (W.cell? ⟨g, z, none⟩ = some (.int .i64 (l1 : Int)) ∧ Hd (Below wr.heap.size wr W)) → Calls Tryd.prog 11 #[.iface 61 u1] W fun e w' => e = .returned (.int .i64 (l1 : Int)) ∧ (w'.cell? ⟨g, z, none⟩ = some (.int .i64 (l1 : Int)) ∧ Hd (Below wr.heap.size wr w')) := fun W h => (LE1 W (EV W h.2.out)).mono fun e w' ⟨he, b⟩ => ⟨he, NX W w' h b⟩
        have LX := fun h => LE2 (w5.alloc (.cells #[.int .i64 y0, .int .i64 y1, .int .i64 y2, .int .i64 y3, .slice aL' nL' cL', .slice aS' nS' cS'] 30)) h
        have LX' := LX (EV _ B6.out)
        have HS : Hd _ := ⟨And.intro SC1 (And.intro SC2 SL1)⟩
        have FIN : Hd (∀ w', Below wr.heap.size wr w' → Below w.heap.size w w') := ⟨fun w' h => B3.out.trans (h.mono B3.out.size)⟩
        have HNX : Hd _ := ⟨NX⟩
        have ez : ((z + 1 : Nat) : Int) = (z : Int) + 1 := by omega
        rw [ez] at LX'
        have i3 : (z : Int) + 1 ≤ (nA : Int) := by omega
        have i4 : (z : Int) < (nA : Int) := by omega
        have i9 : (z : Int) + 1 - 1 = (z : Int) := by omega
        have i6 : IntKind.i64.wrap ((z : Int) + 1 - 1) = (z : Int) := by rw [IntKind.wrap_i64]; omega
        have i7 : IntKind.i64.wrap (z : Int) = (z : Int) := by rw [IntKind.wrap_i64]; omega
        have i8 : z < nA := by omega
        have j1 : decide ((1 : Int) ≤ (z : Int) + 1) = true := decide_eq_true (by omega)
        have j3 : decide ((z : Int) + 1 ≤ (nA : Int)) = true := decide_eq_true i3
        have j4 : (E == E) = true := by simp
        clear SC1 SC2 SL1 LX CE1 CE2 LE1 LE2 NX ez
        go_wp2_with fail
        go_at_call 11
        refine LX'.mono ?_
        rintro e w7 ⟨rfl, b7⟩
        have S7 : w7.cell? ⟨g, z, none⟩ = some (.int .i64 (l1 : Int)) ∧ Hd (Below wr.heap.size wr w7) := HNX.out _ _ ⟨(B6.out.cell (p := ⟨g, z, none⟩) hgB).trans hgA, B6⟩ b7
        have S7' : w7.drew.cell? ⟨g, z, none⟩ = some (.int .i64 (l1 : Int)) ∧ Hd (Below wr.heap.size wr w7.drew) := ⟨S7.1, ⟨S7.2.out.drew⟩⟩
        clear b7 B6 LX' hgA
        obtain ⟨c7, d7⟩ := S7'
        clear S7
        go_wp2_with fail
        go_region_held (fun w' => w'.cell? ⟨g, z, none⟩ = some (.int .i64 (l1 : Int)) ∧ Hd (Below wr.heap.size wr w'))
          (first | assumption | exact ⟨c3, d3⟩ | exact ⟨c2, d2⟩ | exact ⟨c1, d1⟩ | exact ⟨c7, d7⟩)
          (first
          | (go_at_call 12; refine (HS.out.1 _ (by assumption)).mono ?_; rintro e v1 ⟨rfl, c1, d1⟩)
          | (go_at_call 12; refine (HS.out.2.1 _ (by assumption)).mono ?_; rintro e v2 ⟨rfl, c2, d2⟩)
          | (go_at_call 11; refine (HS.out.2.2 _ (by assumption)).mono ?_; rintro e v3 ⟨rfl, c3, d3⟩))
        all_goals
          go_wp2
          go_ret
          exact ⟨rfl, FIN.out _ (Hd.out (by assumption))⟩

end Go.Proofs.YtaodckojinbdfaaDoor
