/-
  Lanes that are trimmed by the program. Conditions: the lanes lie in memory, and are few.
-/
import Derived.Test.YtemmkkcfjhmomabFr
namespace Go.Proofs.Ytemmkkcfjhmomab
open Go.RowKit

theorem resFa41 (tmps : Array Value) (w : World) (b : Nat) {r g n o : Int} {a : Option Addr} {l c : Nat} (ht : tmps[2]?.getD undef = .pointer (some ⟨b, 0, none⟩)) (h : Blk w b 25 (faA r g n o (.slice a l c))) :
    (results Try.f15 tmps).run Try.prog w = .ok (.agg #[.int .u64 r, .int .i64 g, .int .i64 n, .int .i64 o, .slice a l c]) w := by
  obtain ⟨⟨c0, c1, c2, c3, c4⟩, -⟩ := h.fair
  simp [results, Try.results15, go_sem, ht, c0, c1, c2, c3, c4]

theorem trN_no {F : List Ln} {o : Int} {k : Nat} (h : ¬ (o < (k + 1 : Int) ∧ (gl F k).L = [])) : trN F o (k + 1) = k + 1 := by
  unfold trN; rw [if_neg h]
theorem trN_yes {F : List Ln} {o : Int} {k : Nat} (h : o < (k + 1 : Int) ∧ (gl F k).L = []) : trN F o (k + 1) = trN F o k := by
  show (if o < (k + 1 : Int) ∧ (gl F k).L = [] then trN F o k else k + 1) = _
  rw [if_pos h]

set_option maxRecDepth 20000 in
set_option maxHeartbeats 1000000 in
theorem trimmed_ok (S : Nat → Prop) (r g nn o : Int) (a : Option Addr) (c : Nat) (F : List Ln) (w : World) (hst : StR S w a c F) (hf : Few F) :
    Calls Try.prog 15 #[.agg #[.int .u64 r, .int .i64 g, .int .i64 nn, .int .i64 o, .slice a F.length c]] w fun e w' => (∃ v, e = .returned v ∧ FaS S w' r g nn o (trm F o) v) ∧ Below w.heap.size w w' := by
  have h := hst.read (Kept.refl _ _)
  have HW : Hd (StR S w a c F) := ⟨hst⟩
  clear hst
  obtain ⟨w2, hw2⟩ : ∃ w2, w2 = (w.alloc (.cells #[.int .u64 r, .int .i64 g, .int .i64 nn, .int .i64 o, .slice a F.length c] 25)).alloc (.cells #[.int .u64 0, .int .i64 0, .int .i64 0, .int .i64 0, .slice none 0 0] 25) := ⟨_, rfl⟩
  have BX := boxes w 25 25 #[.int .u64 r, .int .i64 g, .int .i64 nn, .int .i64 o, .slice a F.length c] #[.int .u64 0, .int .i64 0, .int .i64 0, .int .i64 0, .slice none 0 0]
  rw [← hw2] at BX
  obtain ⟨B, N1, N2⟩ := BX
  have HF : Hd (Few F) := ⟨hf⟩
  have hl := hf.len
  obtain ⟨⟨x0, x1, x2, x3, x4⟩, -⟩ := Blk.fair N1
  obtain ⟨n, hn⟩ : ∃ n, F.length = n := ⟨_, rfl⟩
  have HL : Hd (F.length = n) := ⟨hn⟩
  have HN : Hd (LsR w2 a c F ∧ Below w.heap.size w w2 ∧ Blk w2 w.heap.size 25 (faA r g nn o (.slice a n c)) ∧ Blk w2 (w.heap.size + 1) 25 (faA 0 0 0 0 (.slice none 0 0))) := ⟨h.carry B, B, by rw [← hn]; exact N1, N2⟩
  rw [hn] at hl hw2 x4 ⊢
  clear hn N1 N2 B h hf
  go_enter Try.func15, Try.ntmps15
  go_upto_region 1 with fail
  rw [← hw2]
  clear hw2
  have hc0 : n ≤ c := by have := HN.out.1.1; have := HL.out; omega
  have hc1 := HN.out.1.2.1
  obtain ⟨A, hA⟩ : ∃ A, A = w.heap.size := ⟨_, rfl⟩
  have HA : Hd (A = w.heap.size) := ⟨hA⟩
  rw [← hA] at HN x0 x1 x2 x3 x4 ⊢
  clear hA
  have h2A : A + 2 ≤ w2.heap.size := by have := HN.out.2.2.2.lt; omega
  go_wp2
  go_loopw [3] (fun i wr => ∃ k : Nat, k ≤ n ∧ i = .int .i64 k ∧ Hd (trN F o n = trN F o k) ∧ wr = w2) (fun i _ => (intOf i).toNat)
  case atStart => exact ⟨n, Nat.le_refl _, rfl, ⟨rfl⟩, rfl⟩
  case round =>
    obtain ⟨k, hk, rfl, HT, rfl⟩ := hrel
    have LN : Hd (∀ W, Below w.heap.size w W → trN F o k = k → FaS S W r g nn o (trm F o) (.agg #[.int .u64 r, .int .i64 g, .int .i64 nn, .int .i64 o, .slice a k c])) := ⟨fun W q e => by
      have e1 : (trm F o).length = k := by rw [trm_len, HL.out, HT.out, e]
      exact ⟨a, c, by rw [e1], (HW.out.next (Kept.of_below q _)).take _⟩⟩
    cases a with
    | none =>
      obtain rfl : c = 0 := hc1 rfl
      obtain rfl : n = 0 := by omega
      obtain rfl : k = 0 := by omega
      clear hc1 hc0
      obtain ⟨SS, hb2, NA, NR⟩ := HN.out
      obtain ⟨q1, k1⟩ := fair_lanes NA (.slice none 0 0)
      have NR' := NR.kept k1 (by omega)
      obtain ⟨q2, k2⟩ := fair_set NR' r g nn o (.slice none 0 0)
      obtain ⟨⟨y0, y1, y2, y3, y4⟩, yf0, yf1, yf2, yf3, yf4⟩ := NR'.fair
      obtain ⟨⟨z0, z1, z2, z3, z4⟩, -⟩ := q1.fair
      obtain ⟨-, xf0, xf1, xf2, xf3, xf4⟩ := NA.fair
      have KK := (k1.below (B := A) (by omega) (fun j e => by omega)).trans (k2.below (B := A) (by have := k1.size; omega) (fun j e => by omega))
      have HE : Hd (_ ∧ _) := ⟨q2, hb2.trans KK⟩
      clear SS hb2 NA NR q1 k1 NR' q2 k2 KK HN
      go_wp2_with fail
      refine bodyPost_ret (resFa41 _ _ _ rfl HE.out.1) rfl ?_
      exact ⟨⟨_, rfl, LN.out _ (by rw [← HA.out]; exact HE.out.2) rfl⟩, by rw [← HA.out]; exact HE.out.2⟩
    | some x =>
      clear hc1
      obtain ⟨SS, hb2, NA, NR⟩ := HN.out
      obtain ⟨q1, k1⟩ := fair_lanes NA (.slice (some x) k c)
      have NR' := NR.kept k1 (by omega)
      obtain ⟨q2, k2⟩ := fair_set NR' r g nn o (.slice (some x) k c)
      obtain ⟨⟨y0, y1, y2, y3, y4⟩, yf0, yf1, yf2, yf3, yf4⟩ := NR'.fair
      obtain ⟨⟨z0, z1, z2, z3, z4⟩, -⟩ := q1.fair
      obtain ⟨-, xf0, xf1, xf2, xf3, xf4⟩ := NA.fair
      have KK := (k1.below (B := A) (by omega) (fun j e => by omega)).trans (k2.below (B := A) (by have := k1.size; omega) (fun j e => by omega))
      have HE : Hd (_ ∧ _) := ⟨q2, hb2.trans KK⟩
      by_cases e0 : k = 0
      · subst e0
        clear SS hb2 NA NR q1 k1 NR' q2 k2 KK HN
        go_wp2_with fail
        refine bodyPost_ret (resFa41 _ _ _ rfl HE.out.1) rfl ?_
        exact ⟨⟨_, rfl, LN.out _ (by rw [← HA.out]; exact HE.out.2) rfl⟩, by rw [← HA.out]; exact HE.out.2⟩
      · obtain ⟨j, rfl⟩ : ∃ j, k = j + 1 := ⟨k - 1, by omega⟩
        obtain ⟨b1, o1, a1, c1, e1, hb1, d0, d1, s1⟩ := SS.at (k := j) (by rw [HL.out]; omega)
        have TN : Hd (¬ (o < (j + 1 : Int) ∧ (gl F j).L = []) → trN F o (j + 1) = j + 1) := ⟨trN_no⟩
        have TY : Hd (o < (j + 1 : Int) → (gl F j).L.length = 0 → trN F o n = trN F o j) := ⟨fun h1 h2 => HT.out.trans (trN_yes ⟨h1, List.eq_nil_of_length_eq_zero h2⟩)⟩
        have TE : Hd ((gl F j).L = [] → (gl F j).L.length = 0) := ⟨fun e => by rw [e]; rfl⟩
        have PN : IntKind.i64.wrap ((j : Int) + 1 - 1) = j := by rw [show (j : Int) + 1 - 1 = j by omega, IntKind.wrap_i64] <;> omega
        injection e1 with e1
        subst e1
        have hm := (HF.out.at j).2
        clear SS hb2 NA NR q1 k1 NR' q2 k2 KK
        by_cases e1 : o < (j : Int) + 1
        · by_cases e2 : (gl F j).L.length = 0
          · rw [e2] at d1
            have HX : Hd (trN F o n = trN F o j) := ⟨TY.out e1 e2⟩
            clear TN TY TE e2 LN HE y0 y1 y2 y3 y4 yf0 yf1 yf2 yf3 yf4 z0 z1 z2 z3 z4 xf0 xf1 xf2 xf3 xf4
            go_wp2
            go_roundw
            case rel => exact ⟨j, by omega, by go_num, HX, by trivial⟩
            case measure => simp [intOf]
          · have HX : Hd (trN F o (j + 1) = j + 1) := ⟨TN.out (fun h => e2 (TE.out h.2))⟩
            clear TN TY TE
            generalize (gl F j).L.length = m at *
            go_wp2_with fail
            refine bodyPost_ret (resFa41 _ _ _ rfl HE.out.1) rfl ?_
            exact ⟨⟨_, rfl, LN.out _ (by rw [← HA.out]; exact HE.out.2) HX.out⟩, by rw [← HA.out]; exact HE.out.2⟩
        · have HX : Hd (trN F o (j + 1) = j + 1) := ⟨TN.out (fun h => e1 h.1)⟩
          clear TN TY TE
          go_wp2_with fail
          refine bodyPost_ret (resFa41 _ _ _ rfl HE.out.1) rfl ?_
          exact ⟨⟨_, rfl, LN.out _ (by rw [← HA.out]; exact HE.out.2) HX.out⟩, by rw [← HA.out]; exact HE.out.2⟩
end Go.Proofs.Ytemmkkcfjhmomab
