/-
  Somebody joins a lane of a hand, by the program and by the reference. Conditions: the lanes and the hand lie in memory, and are few.
-/
import Derived.Test.YtemmkkcfjhmomabFk
import Derived.Test.YtemmkkcfjhmomabFn
import Derived.Test.YtemmkkcfjhmomabJn
import Derived.Test.YtemmkkcfjhmomabFh
namespace Go.Proofs.Ytemmkkcfjhmomab
open Go.RowKit

theorem resFj19 (tmps : Array Value) (w : World) (b : Nat) {r g n o : Int} {a : Option Addr} {l c : Nat} (x y : Value) (ht : tmps[6]?.getD undef = .pointer (some ⟨b, 0, none⟩)) (hx : tmps[7]?.getD undef = x) (hy : tmps[8]?.getD undef = y) (h : Blk w b 25 (faA r g n o (.slice a l c))) :
    (results Try.f13 tmps).run Try.prog w = .ok (.tuple #[.agg #[.int .u64 r, .int .i64 g, .int .i64 n, .int .i64 o, .slice a l c], x, y]) w := by
  obtain ⟨⟨c0, c1, c2, c3, c4⟩, -⟩ := h.fair
  simp [results, Try.results13, go_sem, ht, hx, hy, c0, c1, c2, c3, c4]
theorem OwL.blk {w : World} {B : Nat} {v : Value} {F : List Ln} (h : OwL w B v F) (hn : 0 < F.length) : ∃ q c, v = .slice (some ⟨q, 0, none⟩) F.length c ∧ B ≤ q ∧ q < w.heap.size := by
  obtain ⟨Z, -, ho, -⟩ := h
  rcases id ho.2 with ⟨-, e⟩ | ⟨g, cap, cur, rfl, hb, -⟩
  · omega
  · exact ⟨g, cap, rfl, hb, (ho.lt g rfl).2⟩

set_option maxRecDepth 20000 in
set_option maxHeartbeats 1000000 in
theorem fjoin_none (r g nn o : Int) (a : Option Addr) (c : Nat) (F : List Ln) (ah : Option Addr) (nh ch : Nat) (H0 : Nat → Int) (t : Tk) (w : World) (h : LsR w a c F) (hf : Few F) (hh : HnR w ah nh H0) (hnh : nh ≤ 1000) (hc : chF F o H0 nh = -1) :
    Calls Try.prog 13 #[.agg #[.int .u64 r, .int .i64 g, .int .i64 nn, .int .i64 o, .slice a F.length c], .slice ah nh ch, .agg #[.int .i64 t.id, .int .i64 t.wid, .int .i64 t.sts, .int .i64 t.sin, .int .i64 t.unt]] w fun e w' => e = .returned (.tuple #[faZ, .int .i64 0, .int .i64 6]) ∧ Below w.heap.size w w' := by
  obtain ⟨w2, hw2⟩ : ∃ w2, w2 = ((w.alloc (.cells #[.int .u64 r, .int .i64 g, .int .i64 nn, .int .i64 o, .slice a F.length c] 25)).alloc (.cells #[.int .i64 t.id, .int .i64 t.wid, .int .i64 t.sts, .int .i64 t.sin, .int .i64 t.unt] 30)).alloc (.cells #[.int .u64 0, .int .i64 0, .int .i64 0, .int .i64 0, .slice none 0 0] 25) := ⟨_, rfl⟩
  have BX := boxes3 w 25 30 25 #[.int .u64 r, .int .i64 g, .int .i64 nn, .int .i64 o, .slice a F.length c] #[.int .i64 t.id, .int .i64 t.wid, .int .i64 t.sts, .int .i64 t.sin, .int .i64 t.unt] #[.int .u64 0, .int .i64 0, .int .i64 0, .int .i64 0, .slice none 0 0]
  rw [← hw2] at BX
  obtain ⟨B, N1, N2, N3⟩ := BX
  have HF : Hd (Few F) := ⟨hf⟩
  have HW : Hd (LsR w a c F) := ⟨h⟩
  have hlen := hf.len
  have CHO := choose_ok r g nn o a c F ah nh ch H0 w2 (h.carry B) hf (hh.carry B) hnh
  rw [hc] at CHO
  obtain ⟨n, hn⟩ : ∃ n, F.length = n := ⟨_, rfl⟩
  have HL : Hd (F.length = n) := ⟨hn⟩
  have HN : Hd (LsR w2 a c F ∧ Below w.heap.size w w2 ∧ Blk w2 w.heap.size 25 (faA r g nn o (.slice a n c)) ∧ Blk w2 (w.heap.size + 1) 30 (tkA t) ∧ Blk w2 (w.heap.size + 1 + 1) 25 (faA 0 0 0 0 (.slice none 0 0))) := ⟨h.carry B, B, by rw [← hn]; exact N1, N2, N3⟩
  have hs := N3.lt
  obtain ⟨⟨x0, x1, x2, x3, x4⟩, -⟩ := Blk.fair N1
  rw [hn] at hlen hw2 x4 CHO ⊢
  clear hn B N1 N2 N3 h hf hh hnh
  obtain ⟨t0, t1, t2, t3, t4⟩ := t
  simp only [tkA] at hw2 HN ⊢
  go_enter Try.func13, Try.ntmps13
  go_upto_region 1 with fail
  rw [← hw2]
  clear hw2
  obtain ⟨A, hA⟩ : ∃ A, A = w.heap.size := ⟨_, rfl⟩
  have HA : Hd (A = w.heap.size) := ⟨hA⟩
  rw [← hA] at HN hs x0 x1 x2 x3 x4 ⊢
  clear hA
  go_wp2_with fail
  go_at_call 23
  refine CHO.mono ?_
  rintro e w3 ⟨rfl, b3⟩
  clear CHO x0 x1 x2 x3 x4
  have hs3 := b3.size
  have H3 : Hd (LsR w3 a c F ∧ Below A w w3 ∧ Blk w3 A 25 (faA r g nn o (.slice a n c)) ∧ Blk w3 (A + 1) 30 #[.int .i64 t0, .int .i64 t1, .int .i64 t2, .int .i64 t3, .int .i64 t4] ∧ Blk w3 (A + 1 + 1) 25 (faA 0 0 0 0 (.slice none 0 0))) :=
    ⟨HN.out.1.carry b3, HN.out.2.1.trans (b3.mono (show A ≤ w2.heap.size by omega)), HN.out.2.2.1.kept (Kept.of_below b3 (fun _ => False)) id, HN.out.2.2.2.1.kept (Kept.of_below b3 (fun _ => False)) id, HN.out.2.2.2.2.kept (Kept.of_below b3 (fun _ => False)) id⟩
  clear HN b3
  have NR := H3.out.2.2.2.2
  have BW := H3.out.2.1
  obtain ⟨⟨y0, y1, y2, y3, y4⟩, yf0, yf1, yf2, yf3, yf4⟩ := NR.fair
  obtain ⟨q2, k2⟩ := fair_set NR 0 0 0 0 (.slice none 0 0)
  have HE : Hd (_ ∧ _) := ⟨q2, BW.trans (k2.below (B := A) (by have := NR.lt; omega) (fun j e => by omega))⟩
  clear NR BW q2 k2 H3
  go_wp2_with fail
  refine bodyPost_ret (resFj19 _ _ _ (.int .i64 0) (.int .i64 6) rfl rfl rfl HE.out.1) rfl ?_
  exact ⟨rfl, by rw [← HA.out]; exact HE.out.2⟩

set_option maxRecDepth 20000 in
set_option maxHeartbeats 1000000 in
theorem fjoin_full (r g nn o : Int) (a : Option Addr) (c : Nat) (F : List Ln) (ah : Option Addr) (nh ch : Nat) (H0 : Nat → Int) (t : Tk) (w : World) (h : LsR w a c F) (hf : Few F) (hh : HnR w ah nh H0) (hnh : nh ≤ 1000) (k : Nat) (hk : k < F.length) (hc : chF F o H0 nh = k) (hfull : nn ≤ ((gl F k).L.length : Int)) :
    Calls Try.prog 13 #[.agg #[.int .u64 r, .int .i64 g, .int .i64 nn, .int .i64 o, .slice a F.length c], .slice ah nh ch, .agg #[.int .i64 t.id, .int .i64 t.wid, .int .i64 t.sts, .int .i64 t.sin, .int .i64 t.unt]] w fun e w' => e = .returned (.tuple #[faZ, .int .i64 0, .int .i64 7]) ∧ Below w.heap.size w w' := by
  obtain ⟨w2, hw2⟩ : ∃ w2, w2 = ((w.alloc (.cells #[.int .u64 r, .int .i64 g, .int .i64 nn, .int .i64 o, .slice a F.length c] 25)).alloc (.cells #[.int .i64 t.id, .int .i64 t.wid, .int .i64 t.sts, .int .i64 t.sin, .int .i64 t.unt] 30)).alloc (.cells #[.int .u64 0, .int .i64 0, .int .i64 0, .int .i64 0, .slice none 0 0] 25) := ⟨_, rfl⟩
  have BX := boxes3 w 25 30 25 #[.int .u64 r, .int .i64 g, .int .i64 nn, .int .i64 o, .slice a F.length c] #[.int .i64 t.id, .int .i64 t.wid, .int .i64 t.sts, .int .i64 t.sin, .int .i64 t.unt] #[.int .u64 0, .int .i64 0, .int .i64 0, .int .i64 0, .slice none 0 0]
  rw [← hw2] at BX
  obtain ⟨B, N1, N2, N3⟩ := BX
  have HF : Hd (Few F) := ⟨hf⟩
  have HW : Hd (LsR w a c F) := ⟨h⟩
  have hlen := hf.len
  have CHO := choose_ok r g nn o a c F ah nh ch H0 w2 (h.carry B) hf (hh.carry B) hnh
  rw [hc] at CHO
  obtain ⟨n, hn⟩ : ∃ n, F.length = n := ⟨_, rfl⟩
  have HL : Hd (F.length = n) := ⟨hn⟩
  have HN : Hd (LsR w2 a c F ∧ Below w.heap.size w w2 ∧ Blk w2 w.heap.size 25 (faA r g nn o (.slice a n c)) ∧ Blk w2 (w.heap.size + 1) 30 (tkA t) ∧ Blk w2 (w.heap.size + 1 + 1) 25 (faA 0 0 0 0 (.slice none 0 0))) := ⟨h.carry B, B, by rw [← hn]; exact N1, N2, N3⟩
  have hs := N3.lt
  obtain ⟨⟨x0, x1, x2, x3, x4⟩, -⟩ := Blk.fair N1
  rw [hn] at hlen hw2 x4 CHO ⊢
  clear hn B N1 N2 N3 h hf hh hnh
  obtain ⟨t0, t1, t2, t3, t4⟩ := t
  simp only [tkA] at hw2 HN ⊢
  go_enter Try.func13, Try.ntmps13
  go_upto_region 1 with fail
  rw [← hw2]
  clear hw2
  obtain ⟨A, hA⟩ : ∃ A, A = w.heap.size := ⟨_, rfl⟩
  have HA : Hd (A = w.heap.size) := ⟨hA⟩
  rw [← hA] at HN hs x0 x1 x2 x3 x4 ⊢
  clear hA
  go_wp2_with fail
  go_at_call 23
  refine CHO.mono ?_
  rintro e w3 ⟨rfl, b3⟩
  clear CHO x0 x1 x2 x3 x4
  have hs3 := b3.size
  have H3 : Hd (LsR w3 a c F ∧ Below A w w3 ∧ Blk w3 A 25 (faA r g nn o (.slice a n c)) ∧ Blk w3 (A + 1) 30 #[.int .i64 t0, .int .i64 t1, .int .i64 t2, .int .i64 t3, .int .i64 t4] ∧ Blk w3 (A + 1 + 1) 25 (faA 0 0 0 0 (.slice none 0 0))) :=
    ⟨HN.out.1.carry b3, HN.out.2.1.trans (b3.mono (show A ≤ w2.heap.size by omega)), HN.out.2.2.1.kept (Kept.of_below b3 (fun _ => False)) id, HN.out.2.2.2.1.kept (Kept.of_below b3 (fun _ => False)) id, HN.out.2.2.2.2.kept (Kept.of_below b3 (fun _ => False)) id⟩
  clear HN b3
  have hk0 : (0 : Int) ≤ (k : Int) := by omega
  have hkn : k < n := by have := HL.out; omega
  obtain ⟨b1, o1, a1, c1, rfl, hb1, d0, d1, s1⟩ := H3.out.1.at (k := k) hk
  have hbA : b1 < A := by
    obtain ⟨b', o', a', c', e', hb', -⟩ := HW.out.at hk
    injection e' with e'
    injection e' with e1 e2
    rw [HA.out, e1]
    exact hb'
  have B4 : Below w3.heap.size w3 w3.drew := (Below.refl _ _).drew
  have K4 : Kept (fun _ => False) w3 w3.drew := Kept.of_below B4 _
  have e0 := (World.cell?_of_block (K4.block b1 hb1 id)).trans d0
  have e1 := (World.cell?_of_block (K4.block b1 hb1 id)).trans d1
  have H4 : Hd (LsR w3.drew (some ⟨b1, o1, none⟩) c F ∧ Below A w w3.drew ∧ Blk w3.drew A 25 (faA r g nn o (.slice (some ⟨b1, o1, none⟩) n c)) ∧ Blk w3.drew (A + 1) 30 #[.int .i64 t0, .int .i64 t1, .int .i64 t2, .int .i64 t3, .int .i64 t4] ∧ Blk w3.drew (A + 1 + 1) 25 (faA 0 0 0 0 (.slice none 0 0)) ∧ SlR w3.drew a1 c1 (gl F k).L ∧ b1 < w3.drew.heap.size) :=
    ⟨H3.out.1.carry B4, H3.out.2.1.drew, H3.out.2.2.1.kept K4 id, H3.out.2.2.2.1.kept K4 id, H3.out.2.2.2.2.kept K4 id, s1.carry B4, Nat.lt_of_lt_of_le hb1 B4.size⟩
  have hs4 : w3.heap.size ≤ w3.drew.heap.size := B4.size
  obtain ⟨⟨x0, x1, x2, x3, x4⟩, -⟩ := H4.out.2.2.1.fair
  have HK := HF.out.at k
  clear H3 B4 K4 d0 d1 s1 hb1
  go_upto_region 4 with fail
  refine region_tail 9 (by kernel_rfl) ?_
  simp only [List.take_succ_cons, List.take_zero, List.drop_succ_cons, List.drop_zero]
  generalize w3.drew = w4 at *
  generalize (gl F k).L.length = m at *
  repeat still_step
  refine wpStill_nil ?_
  have NR := H4.out.2.2.2.2.1
  have BW := H4.out.2.1
  clear x0 x1 x2 x3 x4 e0 e1
  obtain ⟨⟨y0, y1, y2, y3, y4⟩, yf0, yf1, yf2, yf3, yf4⟩ := NR.fair
  obtain ⟨q2, k2⟩ := fair_set NR 0 0 0 0 (.slice none 0 0)
  have HE : Hd (_ ∧ _) := ⟨q2, BW.trans (k2.below (B := A) (by have := NR.lt; omega) (fun j e => by omega))⟩
  clear NR BW q2 k2 H4
  go_wp2_with fail
  refine bodyPost_ret (resFj19 _ _ _ (.int .i64 0) (.int .i64 7) rfl rfl rfl HE.out.1) rfl ?_
  exact ⟨rfl, by rw [← HA.out]; exact HE.out.2⟩
end Go.Proofs.Ytemmkkcfjhmomab
