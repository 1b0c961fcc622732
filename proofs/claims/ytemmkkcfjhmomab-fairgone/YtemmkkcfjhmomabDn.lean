/-
  Somebody is dropped, by the program and the reference, where nobody has the number. Conditions: the lanes lie in memory, and are few.
-/
import Derived.Test.YtemmkkcfjhmomabTn
import Derived.Test.YtemmkkcfjhmomabDr
namespace Go.Proofs.Ytemmkkcfjhmomab
open Go.RowKit

theorem resFt25 (tmps : Array Value) (w : World) (b q : Nat) {r g n o : Int} {a : Option Addr} {l c : Nat} {t : Tk} (x : Bool) (ht : tmps[4]?.getD undef = .pointer (some ⟨b, 0, none⟩)) (hu : tmps[5]?.getD undef = .pointer (some ⟨q, 0, none⟩)) (hx : tmps[6]?.getD undef = .bool x) (h : Blk w b 25 (faA r g n o (.slice a l c))) (k : Blk w q 30 (tkA t)) :
    (results Try.f7 tmps).run Try.prog w = .ok (.tuple #[.agg #[.int .u64 r, .int .i64 g, .int .i64 n, .int .i64 o, .slice a l c], .agg #[.int .i64 t.id, .int .i64 t.wid, .int .i64 t.sts, .int .i64 t.sin, .int .i64 t.unt], .bool x]) w := by
  obtain ⟨⟨c0, c1, c2, c3, c4⟩, -⟩ := h.fair
  obtain ⟨⟨d0, d1, d2, d3, d4⟩, -⟩ := k.five
  simp [results, Try.results7, go_sem, ht, hu, hx, c0, c1, c2, c3, c4, d0, d1, d2, d3, d4]
set_option maxRecDepth 20000 in
set_option maxHeartbeats 2000000 in
theorem fdrop_none (r g nn o : Int) (a : Option Addr) (c : Nat) (F : List Ln) (id : Int) (w : World) (h : LsR w a c F) (hf : Few F) (hno : ∀ j, j < F.length → drB id (gl F j).L = false) :
    Calls Try.prog 7 #[.agg #[.int .u64 r, .int .i64 g, .int .i64 nn, .int .i64 o, .slice a F.length c], .int .i64 id] w fun e w' => (∃ v, e = .returned (.tuple #[v, .agg #[.int .i64 0, .int .i64 0, .int .i64 0, .int .i64 0, .int .i64 0], .bool false]) ∧ FaS (fun j => j < w.heap.size) w' r g nn o F v) ∧ Below w.heap.size w w' := by
  obtain ⟨w2, hw2⟩ : ∃ w2, w2 = ((w.alloc (.cells #[.int .u64 r, .int .i64 g, .int .i64 nn, .int .i64 o, .slice a F.length c] 25)).alloc (.cells #[.int .u64 0, .int .i64 0, .int .i64 0, .int .i64 0, .slice none 0 0] 25)).alloc (.cells #[.int .i64 0, .int .i64 0, .int .i64 0, .int .i64 0, .int .i64 0] 30) := ⟨_, rfl⟩
  have BX := boxes3 w 25 25 30 #[.int .u64 r, .int .i64 g, .int .i64 nn, .int .i64 o, .slice a F.length c] #[.int .u64 0, .int .i64 0, .int .i64 0, .int .i64 0, .slice none 0 0] #[.int .i64 0, .int .i64 0, .int .i64 0, .int .i64 0, .int .i64 0]
  rw [← hw2] at BX
  obtain ⟨B, N1, N2, N3⟩ := BX
  have HF : Hd (Few F) := ⟨hf⟩
  have HW : Hd (LsR w a c F) := ⟨h⟩
  have hlen := hf.len
  obtain ⟨n, hn⟩ : ∃ n, F.length = n := ⟨_, rfl⟩
  have HL : Hd (F.length = n) := ⟨hn⟩
  have HN : Hd (LsR w2 a c F ∧ Below w.heap.size w w2 ∧ Blk w2 w.heap.size 25 (faA r g nn o (.slice a n c)) ∧ Blk w2 (w.heap.size + 1) 25 (faA 0 0 0 0 (.slice none 0 0)) ∧ Blk w2 (w.heap.size + 1 + 1) 30 (tkA tkZ)) := ⟨h.carry B, B, by rw [← hn]; exact N1, N2, N3⟩
  have hs := N3.lt
  obtain ⟨⟨x0, x1, x2, x3, x4⟩, -⟩ := Blk.fair N1
  rw [hn] at hlen hw2 x4 ⊢
  have HNO : Hd (∀ j, j < n → drB id (gl F j).L = false) := ⟨fun j hj => hno j (by omega)⟩
  clear hno hn B N1 N2 N3 h hf
  go_enter Try.func7, Try.ntmps7
  go_upto_region 1 with fail
  rw [← hw2]
  clear hw2
  obtain ⟨A, hA⟩ : ∃ A, A = w.heap.size := ⟨_, rfl⟩
  have HA : Hd (A = w.heap.size) := ⟨hA⟩
  rw [← hA] at HN hs x0 x1 x2 x3 x4 ⊢
  clear hA
  go_wp2
  clear x0 x1 x2 x3 x4
  go_loopw [14] (fun i wr => ∃ j : Nat, j ≤ n ∧ i = .int .i64 j ∧ Below w2.heap.size w2 wr) (fun i _ => n - (intOf i).toNat)
  case atStart => exact ⟨0, Nat.zero_le _, rfl, Below.refl _ _⟩
  case round =>
    obtain ⟨j, hj, rfl, p3⟩ := hrel
    have H3 : Hd (LsR wr a c F ∧ Below A w wr ∧ Blk wr A 25 (faA r g nn o (.slice a n c)) ∧ Blk wr (A + 1) 25 (faA 0 0 0 0 (.slice none 0 0)) ∧ Blk wr (A + 1 + 1) 30 (tkA tkZ)) :=
      ⟨HN.out.1.carry p3, HN.out.2.1.trans (p3.mono (show A ≤ w2.heap.size by omega)), HN.out.2.2.1.kept (Kept.of_below p3 (fun _ => False)) (fun h => h), HN.out.2.2.2.1.kept (Kept.of_below p3 (fun _ => False)) (fun h => h), HN.out.2.2.2.2.kept (Kept.of_below p3 (fun _ => False)) (fun h => h)⟩
    by_cases hlt : j < n
    · skip
      obtain ⟨b1, o1, a1, c1, rfl, hb1, d0, d1, s1⟩ := H3.out.1.at (k := j) (by rw [HL.out]; omega)
      have HK := HF.out.at j
      have hjn : j < n := by omega
      obtain ⟨⟨x0, x1, x2, x3, x4⟩, -⟩ := H3.out.2.2.1.fair
      have DP := drop_ok (gl F j).s a1 c1 (gl F j).L id wr s1 (by omega)
      rw [HNO.out j (by omega)] at DP
      obtain ⟨tt, htt⟩ : ∃ tt, tt = drT id (gl F j).L := ⟨_, rfl⟩
      rw [← htt] at DP
      clear htt
      obtain ⟨t0, t1, t2, t3, t4⟩ := tt
      simp only at DP
      have P : Hd (Below w2.heap.size w2 wr) := ⟨p3⟩
      clear p3 H3 s1 hb1
      generalize (gl F j).L.length = m at *
      obtain ⟨s, hs'⟩ : ∃ s, s = (gl F j).s := ⟨_, rfl⟩
      rw [← hs'] at DP d0
      clear hs'
      go_wp2_with fail
      go_at_call 14
      refine DP.mono ?_
      rintro e w5 ⟨⟨v5, rfl, ⟨a5, c5, rfl, -⟩, -⟩, b5⟩
      clear DP d0 d1 x0 x1 x2 x3 x4
      generalize (drL id (gl F j).L).length = m5 at *
      obtain ⟨B6, N6, N7⟩ := boxes w5 38 30 #[.int .u64 s, .slice a5 m5 c5] #[.int .i64 t0, .int .i64 t1, .int .i64 t2, .int .i64 t3, .int .i64 t4]
      have R6 : Hd (Below w2.heap.size w2 ((w5.alloc (.cells #[.int .u64 s, .slice a5 m5 c5] 38)).alloc (.cells #[.int .i64 t0, .int .i64 t1, .int .i64 t2, .int .i64 t3, .int .i64 t4] 30))) := ⟨P.out.trans ((b5.trans (B6.mono b5.size)).mono P.out.size)⟩
      clear b5 B6 N6 N7
      go_wp2
      go_roundw
      case rel => exact ⟨j + 1, by omega, by go_num, R6.out⟩
      case measure => simp [intOf]; omega
    · obtain rfl : j = n := by omega
      have CP := fcopied_ok r g nn o a c F wr H3.out.1 HF.out
      rw [HL.out] at CP
      have hs3 := p3.size
      obtain ⟨⟨x0, x1, x2, x3, x4⟩, -⟩ := H3.out.2.2.1.fair
      clear p3
      go_wp2_with fail
      go_at_call 17
      refine CP.mono ?_
      rintro e w5 ⟨⟨v5, rfl, u5, rfl, o5⟩, b5⟩
      clear CP x0 x1 x2 x3 x4
      obtain ⟨a5, c5, e5, -⟩ := o5.read
      rw [HL.out] at e5
      subst e5
      have NR := H3.out.2.2.2.1.kept (Kept.of_below b5 (fun _ => False)) (fun h => h)
      have NT := H3.out.2.2.2.2.kept (Kept.of_below b5 (fun _ => False)) (fun h => h)
      have BW := H3.out.2.1.trans (b5.mono (show A ≤ wr.heap.size by omega))
      obtain ⟨⟨y0, y1, y2, y3, y4⟩, yf0, yf1, yf2, yf3, yf4⟩ := NR.fair
      obtain ⟨⟨-, p2, -⟩, q1, q2, k2⟩ := ft_put NR NT r g nn o (.slice a5 j c5) tkZ
      obtain ⟨⟨d0, d1, d2, d3, d4⟩, e0, e1, e2, e3, e4⟩ := p2.five
      have HE : Hd (_ ∧ _ ∧ _ ∧ _) := ⟨q1, q2, o5.kept k2 (fun j hj e => by omega), BW.trans (k2.below (B := A) (by have := NR.lt; omega) (fun j e => by omega))⟩
      clear NR NT BW q1 q2 k2 o5 b5 H3 p2
      simp only [tkZ] at HE d0 d1 d2 d3 d4
      go_wp2_with fail
      refine bodyPost_ret (resFt25 (t := tkZ) _ _ _ _ false rfl rfl rfl HE.out.1 HE.out.2.1) rfl ?_
      obtain ⟨a9, c9, e9, r9⟩ := HE.out.2.2.1.st (S := fun j => j < w.heap.size) (fun j hj e => by have : j < w.heap.size := e; have := HA.out; omega)
      rw [HL.out] at e9
      obtain ⟨rfl, rfl⟩ : a5 = a9 ∧ c5 = c9 := by injection e9 with x1 x2 x3; exact ⟨x1, x3⟩
      exact ⟨⟨_, rfl, _, _, by rw [HL.out], r9⟩, by rw [← HA.out]; exact HE.out.2.2.2⟩

end Go.Proofs.Ytemmkkcfjhmomab
