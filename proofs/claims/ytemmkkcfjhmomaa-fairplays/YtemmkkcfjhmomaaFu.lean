/-
  Lanes that are trimmed by the reference. Conditions: the lanes lie in memory, and are few.
-/
import Derived.Test.YtemmkkcfjhmomaaFr
import Derived.Test.YtemmkkcfjhmomaaFt
namespace Go.Proofs.Ytemmkkcfjhmomaa
open Go.RowKit

theorem resFa42 (tmps : Array Value) (w : World) (b : Nat) {r g n o : Int} {a : Option Addr} {l c : Nat} (ht : tmps[2]?.getD undef = .pointer (some ⟨b, 0, none⟩)) (h : Blk w b 25 (faA r g n o (.slice a l c))) :
    (results Try.f42 tmps).run Try.prog w = .ok (.agg #[.int .u64 r, .int .i64 g, .int .i64 n, .int .i64 o, .slice a l c]) w := by
  obtain ⟨⟨c0, c1, c2, c3, c4⟩, -⟩ := h.fair
  simp [results, Try.results42, go_sem, ht, c0, c1, c2, c3, c4]

set_option maxRecDepth 20000 in
set_option maxHeartbeats 1000000 in
theorem rtrim_ok (S : Nat → Prop) (r g nn o : Int) (a : Option Addr) (c : Nat) (F : List Ln) (w : World) (hst : StR S w a c F) (hS : ∀ j, S j → j < w.heap.size) (hf : Few F) :
    Calls Try.prog 42 #[.agg #[.int .u64 r, .int .i64 g, .int .i64 nn, .int .i64 o, .slice a F.length c]] w fun e w' => (∃ v, e = .returned v ∧ FaS S w' r g nn o (trm F o) v) ∧ Below w.heap.size w w' := by
  have h := hst.read (Kept.refl _ _)
  have HW : Hd (StR S w a c F ∧ ∀ j, S j → j < w.heap.size) := ⟨hst, hS⟩
  clear hst hS
  obtain ⟨w2, hw2⟩ : ∃ w2, w2 = (w.alloc (.cells #[.int .u64 r, .int .i64 g, .int .i64 nn, .int .i64 o, .slice a F.length c] 25)).alloc (.cells #[.int .u64 0, .int .i64 0, .int .i64 0, .int .i64 0, .slice none 0 0] 25) := ⟨_, rfl⟩
  have BX := boxes w 25 25 #[.int .u64 r, .int .i64 g, .int .i64 nn, .int .i64 o, .slice a F.length c] #[.int .u64 0, .int .i64 0, .int .i64 0, .int .i64 0, .slice none 0 0]
  rw [← hw2] at BX
  obtain ⟨B, N1, N2⟩ := BX
  have HF : Hd (Few F) := ⟨hf⟩
  have hl := hf.len
  obtain ⟨⟨x0, x1, x2, x3, x4⟩, -⟩ := Blk.fair N1
  obtain ⟨n, hn⟩ : ∃ n, F.length = n := ⟨_, rfl⟩
  have HL : Hd (F.length = n) := ⟨hn⟩
  have HN : Hd (LsR w2 a c F ∧ Below w.heap.size w w2 ∧ Blk w2 w.heap.size 25 (faA r g nn o (.slice a n c)) ∧ Blk w2 (w.heap.size + 1) 25 (faA 0 0 0 0 (.slice none 0 0))) := ⟨h.carry B, B, by rw [← hn]; exact N1, N2⟩
  rw [hn] at hl hw2 ⊢
  clear hn N1 N2 B h hf x0 x1 x2 x3 x4
  go_enter Try.func42, Try.ntmps42
  go_upto_region 1 with fail
  rw [← hw2]
  clear hw2
  obtain ⟨A, hA⟩ : ∃ A, A = w.heap.size := ⟨_, rfl⟩
  have HA : Hd (A = w.heap.size) := ⟨hA⟩
  rw [← hA] at HN ⊢
  clear hA
  have h2A : A + 2 ≤ w2.heap.size := by have := HN.out.2.2.2.lt; omega
  go_loopw [] (fun wr => ∃ (k : Nat) (a' : Option Addr) (c' : Nat), k ≤ n ∧ Blk wr A 25 (faA r g nn o (.slice a' k c')) ∧ StR (fun j => j = A ∨ j = A + 1 ∨ S j) wr a' c' (F.take k) ∧ Hd (trN F o n = trN F o k) ∧ Kept (fun j => j = A) w2 wr) (fun wr => match wr.cell? ⟨A, 4, none⟩ with | some (.slice _ k _) => k | _ => 0)
  case atStart => exact ⟨n, a, c, Nat.le_refl _, HN.out.2.2.1, by rw [List.take_of_length_le (by have := HL.out; omega)]; exact HW.out.1.high (by rw [← HA.out]; exact HN.out.2.1) (fun j hj e => by have := HA.out; rcases e with e | e | e <;> first | exact e | omega), ⟨rfl⟩, Kept.refl _ _⟩
  case round =>
    obtain ⟨k, a', c', hk, NA, SS, HT, K⟩ := hrel
    have NR : Blk wr (A + 1) 25 (faA 0 0 0 0 (.slice none 0 0)) := HN.out.2.2.2.kept K (by omega)
    obtain ⟨q2, k2⟩ := fair_set NR r g nn o (.slice a' k c')
    obtain ⟨⟨y0, y1, y2, y3, y4⟩, yf0, yf1, yf2, yf3, yf4⟩ := NR.fair
    obtain ⟨⟨x0, x1, x2, x3, x4⟩, xf0, xf1, xf2, xf3, xf4⟩ := NA.fair
    have BW : Below A w wr := HN.out.2.1.trans (K.below (B := A) (by omega) (fun j e => by omega))
    have LN : trN F o k = k → trm F o = F.take k ∧ (F.take k).length = k := fun e => by
      have e1 : (trm F o).length = k := by rw [trm_len, HL.out, HT.out, e]
      have e2 : trm F o = F.take k := by unfold trm; rw [HL.out, HT.out, e]
      exact ⟨e2, by rw [← e2, e1]⟩
    have S2 := (SS.next (k2.mono (fun j _ e => .inr (.inl e)))).low (T := S) (fun j _ e => .inr (.inr e))
    have HE : Hd (trN F o k = k → Blk _ _ _ _ ∧ FaS S _ r g nn o (trm F o) (.agg #[.int .u64 r, .int .i64 g, .int .i64 nn, .int .i64 o, .slice a' k c']) ∧ Below A w _) := ⟨fun e => ⟨q2, ⟨a', c', by rw [(LN e).1, (LN e).2], by rw [(LN e).1]; exact S2⟩, BW.trans (k2.below (B := A) (by have := NR.lt; omega) (fun j e => by omega))⟩⟩
    clear q2 k2 LN S2
    by_cases e0 : k = 0
    · subst e0
      clear SS NA NR BW K HT
      go_wp2_with fail
      refine bodyPost_ret (resFa42 _ _ _ rfl (HE.out rfl).1) rfl ?_
      exact ⟨⟨_, rfl, (HE.out rfl).2.1⟩, by rw [← HA.out]; exact (HE.out rfl).2.2⟩
    · obtain ⟨j, rfl⟩ : ∃ j, k = j + 1 := ⟨k - 1, by omega⟩
      have htl : (F.take (j + 1)).length = j + 1 := by rw [List.length_take]; have := HL.out; omega
      have hglt : gl (F.take (j + 1)) j = gl F j := gl_take (Nat.lt_succ_self j)
      obtain ⟨b1, o1, a1, c1, e1, hb1, d0, d1, s1⟩ := (SS.read (Kept.refl _ _)).at (k := j) (by rw [htl]; omega)
      rw [hglt] at d0 d1 s1
      have TN : Hd (¬ (o < (j + 1 : Int) ∧ (gl F j).L = []) → trN F o (j + 1) = j + 1) := ⟨trN_no⟩
      have TY : Hd (o < (j + 1 : Int) → (gl F j).L.length = 0 → trN F o n = trN F o j) := ⟨fun h1 h2 => HT.out.trans (trN_yes ⟨h1, List.eq_nil_of_length_eq_zero h2⟩)⟩
      have TE : Hd ((gl F j).L = [] → (gl F j).L.length = 0) := ⟨fun e => by rw [e]; rfl⟩
      have PN : IntKind.i64.wrap ((j : Int) + 1 - 1) = j := by rw [show (j : Int) + 1 - 1 = j by omega, IntKind.wrap_i64] <;> omega
      subst e1
      have hm := (HF.out.at j).2
      have hjc : j + 1 ≤ c' := by have := SS.1; omega
      by_cases e1 : o < (j : Int) + 1
      · by_cases e2 : (gl F j).L.length = 0
        · rw [e2] at d1
          have HX : Hd (trN F o n = trN F o j) := ⟨TY.out e1 e2⟩
          obtain ⟨M, hM1, hM2, hM3, hM4, hM5⟩ := SS.row (k := j) (by rw [htl]; omega)
          rw [List.take_take, Nat.min_eq_left (Nat.le_succ j)] at hM1 hM5
          have hwz := NR.lt
          obtain ⟨w6, hw6⟩ : ∃ w6, w6 = wr.alloc (.cells #[] 65) := ⟨_, rfl⟩
          have B6 : Below wr.heap.size wr w6 := by rw [hw6]; exact alloc_below _ _
          have O6 : w6.ownsRow wr.heap.size 65 2 (.slice (some ⟨wr.heap.size, 0, none⟩) 0 0) 0 [] := by rw [hw6]; exact World.ownsRow_made wr #[] 0 (Nat.le_refl _) (Nat.zero_le _) rfl
          have R6 : Hd (w6.ownsRow wr.heap.size 65 2 (.slice (some ⟨wr.heap.size, 0, none⟩) 0 0) 0 [] ∧ RowR w6 (some ⟨b1, o1, none⟩) (zCs M) ∧ (∀ z ∈ M, ∃ a n c, z.2 = .slice a n c) ∧ Below wr.heap.size wr w6 ∧ wr.heap.size ≤ w6.heap.size) := ⟨O6, hM3.carry B6, fun z hz => by obtain ⟨a, c, e, -⟩ := hM4 z hz; exact ⟨a, _, c, e⟩, B6, B6.size⟩
          have HM : Hd (M.length = j ∧ Blk wr A 25 (faA r g nn o (.slice (some ⟨b1, o1, none⟩) (j + 1) c')) ∧ Kept (fun j => j = A) w2 wr ∧ A + 1 < wr.heap.size ∧ ∀ (W : World) (v : Value), W.ownsRow wr.heap.size 65 2 v (0 + j) (zCs ([] ++ M)) → Kept (fun j => j = A ∨ j = A + 1 ∨ S j) wr W → ∃ a' c', v = .slice a' j c' ∧ StR (fun j => j = A ∨ j = A + 1 ∨ S j) W a' c' (F.take j)) := ⟨hM2, NA, K, hwz, fun W v h1 h2 => hM5 W _ v h1 h2 (fun j hj e => by rcases e with e | e | e <;> first | omega | (have := HW.out.2 j e; have := HA.out; omega))⟩
          obtain ⟨⟨-, -, -, -, u4⟩, -⟩ := (NA.kept (Kept.of_below B6 (fun _ => False)) id).fair
          clear TN TY TE e2 HE y0 y1 y2 y3 y4 yf0 yf1 yf2 yf3 yf4 hM1 hM2 hM3 hM4 hM5 B6 O6 SS NA NR K BW HT
          subst hw6
          go_wp2_with (at_builtin; refine wpl_lzs rfl _ _ rfl wr.heap.size _ [] M rfl R6.out.1 (some ⟨b1, o1, none⟩) j c' HM.out.1 rfl (by omega) (fun e => by cases e) R6.out.2.1 R6.out.2.2.1 (by have := HM.out.1; simp; omega) R6.out.2.2.2.2 ?_; intro v7 w7 o7 g7; have b7 : Below wr.heap.size wr w7 := R6.out.2.2.2.1.grown g7 R6.out.2.2.2.2 (fun q e => by injection e with e; have e : wr.heap.size = q := e; omega); have NA7 := HM.out.2.1.kept (Kept.of_below b7 (fun _ => False)) id; have o7k : ∀ W, Kept (fun j => j = A) w7 W → w7.ownsRow wr.heap.size 65 2 v7 (0 + j) (zCs ([] ++ M)) → W.ownsRow wr.heap.size 65 2 v7 (0 + j) (zCs ([] ++ M)) := fun W k h => ownsRow_kept h k (fun q e => by have := (h.lt q e).1; have := HM.out.2.2.2.1; omega); obtain ⟨a9, c9, rfl, -⟩ := HM.out.2.2.2.2 w7 v7 o7 (Kept.of_below b7 _); obtain ⟨q1, k1⟩ := fair_lanes NA7 (.slice a9 j c9); obtain ⟨a8, c8, e8, st⟩ := HM.out.2.2.2.2 _ _ (o7k _ k1 o7) ((Kept.of_below b7 _).trans (k1.mono (fun j _ e => .inl e))); obtain ⟨rfl, -, rfl⟩ : a9 = a8 ∧ True ∧ c9 = c8 := (by injection e8 with x1 x2 x3; exact ⟨x1, trivial, x3⟩); obtain ⟨⟨z0, z1, z2, z3, z4⟩, zf0, zf1, zf2, zf3, zf4⟩ := NA7.fair; have R8 : Hd (_ ∧ _ ∧ _) := ⟨q1, st, HM.out.2.2.1.trans ((Kept.of_below b7 _).trans k1)⟩; have W8 := q1.cellv (v := .slice a9 j c9) 4 rfl; clear b7 NA7 o7k q1 k1 e8 st o7 g7 HM R6)
          go_roundw
          case rel => exact ⟨j, a9, c9, by omega, R8.out.1, R8.out.2.1, HX, R8.out.2.2⟩
          case measure => rw [W8, x4]; simp
        · have HX : Hd (trN F o (j + 1) = j + 1) := ⟨TN.out (fun h => e2 (TE.out h.2))⟩
          clear TN TY TE SS NA NR BW K HT
          generalize (gl F j).L.length = m at *
          go_wp2_with fail
          refine bodyPost_ret (resFa42 _ _ _ rfl (HE.out HX.out).1) rfl ?_
          exact ⟨⟨_, rfl, (HE.out HX.out).2.1⟩, by rw [← HA.out]; exact (HE.out HX.out).2.2⟩
      · have HX : Hd (trN F o (j + 1) = j + 1) := ⟨TN.out (fun h => e1 h.1)⟩
        clear TN TY TE SS NA NR BW K HT
        go_wp2_with fail
        refine bodyPost_ret (resFa42 _ _ _ rfl (HE.out HX.out).1) rfl ?_
        exact ⟨⟨_, rfl, (HE.out HX.out).2.1⟩, by rw [← HA.out]; exact (HE.out HX.out).2.2⟩
end Go.Proofs.Ytemmkkcfjhmomaa
