/-
  Who is next is taken, by the program and the reference, where nobody waits. Conditions: the lanes lie in memory, and are few.
-/
import Derived.Test.YtemmkkcfjhmomabFj
import Derived.Test.YtemmkkcfjhmomabFh
import Derived.Test.YtemmkkcfjhmomabFr
import Derived.Test.YtemmkkcfjhmomabFt
namespace Go.Proofs.Ytemmkkcfjhmomab
open Go.RowKit

theorem resFt23 (tmps : Array Value) (w : World) (b q : Nat) {r g n o : Int} {a : Option Addr} {l c : Nat} {t : Tk} (x : Bool) (ht : tmps[2]?.getD undef = .pointer (some ⟨b, 0, none⟩)) (hu : tmps[3]?.getD undef = .pointer (some ⟨q, 0, none⟩)) (hx : tmps[4]?.getD undef = .bool x) (h : Blk w b 25 (faA r g n o (.slice a l c))) (k : Blk w q 30 (tkA t)) :
    (results Try.f10 tmps).run Try.prog w = .ok (.tuple #[.agg #[.int .u64 r, .int .i64 g, .int .i64 n, .int .i64 o, .slice a l c], .agg #[.int .i64 t.id, .int .i64 t.wid, .int .i64 t.sts, .int .i64 t.sin, .int .i64 t.unt], .bool x]) w := by
  obtain ⟨⟨c0, c1, c2, c3, c4⟩, -⟩ := h.fair
  obtain ⟨⟨d0, d1, d2, d3, d4⟩, -⟩ := k.five
  simp [results, Try.results10, go_sem, ht, hu, hx, c0, c1, c2, c3, c4, d0, d1, d2, d3, d4]
/-- A fair and a ticket are put into two blocks. -/
theorem ft_put {w : World} {b q : Nat} {r g n o : Int} {v : Value} {t0 : Tk} (h : Blk w b 25 (faA r g n o v)) (k : Blk w q 30 (tkA t0)) (r' g' n' o' : Int) (v' : Value) (t' : Tk) :
    (Blk (((((w.setCell ⟨b, 0, none⟩ (.int .u64 r')).setCell ⟨b, 1, none⟩ (.int .i64 g')).setCell ⟨b, 2, none⟩ (.int .i64 n')).setCell ⟨b, 3, none⟩ (.int .i64 o')).setCell ⟨b, 4, none⟩ (v')) b 25 (faA r' g' n' o' v') ∧ Blk (((((w.setCell ⟨b, 0, none⟩ (.int .u64 r')).setCell ⟨b, 1, none⟩ (.int .i64 g')).setCell ⟨b, 2, none⟩ (.int .i64 n')).setCell ⟨b, 3, none⟩ (.int .i64 o')).setCell ⟨b, 4, none⟩ (v')) q 30 (tkA t0) ∧ Kept (fun k => k = b) w (((((w.setCell ⟨b, 0, none⟩ (.int .u64 r')).setCell ⟨b, 1, none⟩ (.int .i64 g')).setCell ⟨b, 2, none⟩ (.int .i64 n')).setCell ⟨b, 3, none⟩ (.int .i64 o')).setCell ⟨b, 4, none⟩ (v')))
    ∧ Blk ((((((((((w.setCell ⟨b, 0, none⟩ (.int .u64 r')).setCell ⟨b, 1, none⟩ (.int .i64 g')).setCell ⟨b, 2, none⟩ (.int .i64 n')).setCell ⟨b, 3, none⟩ (.int .i64 o')).setCell ⟨b, 4, none⟩ (v')).setCell ⟨q, 0, none⟩ (.int .i64 t'.id)).setCell ⟨q, 1, none⟩ (.int .i64 t'.wid)).setCell ⟨q, 2, none⟩ (.int .i64 t'.sts)).setCell ⟨q, 3, none⟩ (.int .i64 t'.sin)).setCell ⟨q, 4, none⟩ (.int .i64 t'.unt)) b 25 (faA r' g' n' o' v') ∧ Blk ((((((((((w.setCell ⟨b, 0, none⟩ (.int .u64 r')).setCell ⟨b, 1, none⟩ (.int .i64 g')).setCell ⟨b, 2, none⟩ (.int .i64 n')).setCell ⟨b, 3, none⟩ (.int .i64 o')).setCell ⟨b, 4, none⟩ (v')).setCell ⟨q, 0, none⟩ (.int .i64 t'.id)).setCell ⟨q, 1, none⟩ (.int .i64 t'.wid)).setCell ⟨q, 2, none⟩ (.int .i64 t'.sts)).setCell ⟨q, 3, none⟩ (.int .i64 t'.sin)).setCell ⟨q, 4, none⟩ (.int .i64 t'.unt)) q 30 (tkA t') ∧ Kept (fun k => k = b ∨ k = q) w ((((((((((w.setCell ⟨b, 0, none⟩ (.int .u64 r')).setCell ⟨b, 1, none⟩ (.int .i64 g')).setCell ⟨b, 2, none⟩ (.int .i64 n')).setCell ⟨b, 3, none⟩ (.int .i64 o')).setCell ⟨b, 4, none⟩ (v')).setCell ⟨q, 0, none⟩ (.int .i64 t'.id)).setCell ⟨q, 1, none⟩ (.int .i64 t'.wid)).setCell ⟨q, 2, none⟩ (.int .i64 t'.sts)).setCell ⟨q, 3, none⟩ (.int .i64 t'.sin)).setCell ⟨q, 4, none⟩ (.int .i64 t'.unt)) := by
  have hne : b ≠ q := h.ne k (by decide)
  obtain ⟨q1, q2⟩ := fair_set h r' g' n' o' v'
  have k1 := k.kept q2 (Ne.symm hne)
  obtain ⟨u1, u2⟩ := five_set k1 t'
  exact ⟨⟨q1, k1, q2⟩, q1.kept u2 hne, u1, (q2.mono (fun k _ e => .inl e)).trans (u2.mono (fun k _ e => .inr e))⟩

set_option maxRecDepth 20000 in
set_option maxHeartbeats 1000000 in
theorem ftake_none (r g nn o : Int) (a : Option Addr) (c : Nat) (F : List Ln) (w : World) (h : LsR w a c F) (hf : Few F) (hc : nxt F g = -1) :
    Calls Try.prog 10 #[.agg #[.int .u64 r, .int .i64 g, .int .i64 nn, .int .i64 o, .slice a F.length c]] w fun e w' => (∃ v, e = .returned (.tuple #[v, .agg #[.int .i64 0, .int .i64 0, .int .i64 0, .int .i64 0, .int .i64 0], .bool false]) ∧ FaS (fun j => j < w.heap.size) w' r g nn o F v) ∧ Below w.heap.size w w' := by
  obtain ⟨w2, hw2⟩ : ∃ w2, w2 = ((w.alloc (.cells #[.int .u64 r, .int .i64 g, .int .i64 nn, .int .i64 o, .slice a F.length c] 25)).alloc (.cells #[.int .u64 0, .int .i64 0, .int .i64 0, .int .i64 0, .slice none 0 0] 25)).alloc (.cells #[.int .i64 0, .int .i64 0, .int .i64 0, .int .i64 0, .int .i64 0] 30) := ⟨_, rfl⟩
  have BX := boxes3 w 25 25 30 #[.int .u64 r, .int .i64 g, .int .i64 nn, .int .i64 o, .slice a F.length c] #[.int .u64 0, .int .i64 0, .int .i64 0, .int .i64 0, .slice none 0 0] #[.int .i64 0, .int .i64 0, .int .i64 0, .int .i64 0, .int .i64 0]
  rw [← hw2] at BX
  obtain ⟨B, N1, N2, N3⟩ := BX
  have HF : Hd (Few F) := ⟨hf⟩
  have HW : Hd (LsR w a c F) := ⟨h⟩
  have hlen := hf.len
  have NXT := next_ok r g nn o a c F w2 (h.carry B) hf
  rw [hc, show nI (-1) = 0 from rfl, show nB (-1) = false from rfl] at NXT
  obtain ⟨n, hn⟩ : ∃ n, F.length = n := ⟨_, rfl⟩
  have HL : Hd (F.length = n) := ⟨hn⟩
  have HN : Hd (LsR w2 a c F ∧ Below w.heap.size w w2 ∧ Blk w2 w.heap.size 25 (faA r g nn o (.slice a n c)) ∧ Blk w2 (w.heap.size + 1) 25 (faA 0 0 0 0 (.slice none 0 0)) ∧ Blk w2 (w.heap.size + 1 + 1) 30 (tkA tkZ)) := ⟨h.carry B, B, by rw [← hn]; exact N1, N2, N3⟩
  have hs := N3.lt
  obtain ⟨⟨x0, x1, x2, x3, x4⟩, -⟩ := Blk.fair N1
  rw [hn] at hlen hw2 x4 NXT ⊢
  clear hn B N1 N2 N3 h hf
  go_enter Try.func10, Try.ntmps10
  go_upto_region 1 with fail
  rw [← hw2]
  clear hw2
  obtain ⟨A, hA⟩ : ∃ A, A = w.heap.size := ⟨_, rfl⟩
  have HA : Hd (A = w.heap.size) := ⟨hA⟩
  rw [← hA] at HN hs x0 x1 x2 x3 x4 ⊢
  clear hA
  go_wp2_with fail
  go_at_call 9
  refine NXT.mono ?_
  rintro e w3 ⟨rfl, b3⟩
  clear NXT x0 x1 x2 x3 x4
  have hs3 := b3.size
  have H3 : Hd (LsR w3 a c F ∧ Below A w w3 ∧ Blk w3 A 25 (faA r g nn o (.slice a n c)) ∧ Blk w3 (A + 1) 25 (faA 0 0 0 0 (.slice none 0 0)) ∧ Blk w3 (A + 1 + 1) 30 (tkA tkZ)) :=
    ⟨HN.out.1.carry b3, HN.out.2.1.trans (b3.mono (show A ≤ w2.heap.size by omega)), HN.out.2.2.1.kept (Kept.of_below b3 (fun _ => False)) id, HN.out.2.2.2.1.kept (Kept.of_below b3 (fun _ => False)) id, HN.out.2.2.2.2.kept (Kept.of_below b3 (fun _ => False)) id⟩
  clear HN b3
  have CP := fcopied_ok r g nn o a c F w3 H3.out.1 HF.out
  rw [HL.out] at CP
  obtain ⟨⟨x0, x1, x2, x3, x4⟩, -⟩ := H3.out.2.2.1.fair
  go_wp2_with fail
  go_at_call 17
  refine CP.mono ?_
  rintro e w5 ⟨⟨v5, rfl, u5, rfl, o5⟩, b5⟩
  clear CP x0 x1 x2 x3 x4
  obtain ⟨a5, c5, e5, -⟩ := o5.read
  rw [HL.out] at e5
  subst e5
  have NR := H3.out.2.2.2.1.kept (Kept.of_below b5 (fun _ => False)) id
  have NT := H3.out.2.2.2.2.kept (Kept.of_below b5 (fun _ => False)) id
  have BW := H3.out.2.1.trans (b5.mono (show A ≤ w3.heap.size by omega))
  obtain ⟨⟨y0, y1, y2, y3, y4⟩, yf0, yf1, yf2, yf3, yf4⟩ := NR.fair
  obtain ⟨⟨-, p2, -⟩, q1, q2, k2⟩ := ft_put NR NT r g nn o (.slice a5 n c5) tkZ
  obtain ⟨⟨d0, d1, d2, d3, d4⟩, e0, e1, e2, e3, e4⟩ := p2.five
  have HE : Hd (_ ∧ _ ∧ _ ∧ _) := ⟨q1, q2, o5.kept k2 (fun j hj e => by omega), BW.trans (k2.below (B := A) (by have := NR.lt; omega) (fun j e => by omega))⟩
  clear NR NT BW q1 q2 k2 o5 b5 H3 p2
  simp only [tkZ] at HE d0 d1 d2 d3 d4
  go_wp2_with fail
  refine bodyPost_ret (resFt23 (t := tkZ) _ _ _ _ false rfl rfl rfl HE.out.1 HE.out.2.1) rfl ?_
  obtain ⟨a9, c9, e9, r9⟩ := HE.out.2.2.1.st (S := fun j => j < w.heap.size) (fun j hj e => by have : j < w.heap.size := e; have := HA.out; omega)
  rw [HL.out] at e9
  obtain ⟨rfl, rfl⟩ : a5 = a9 ∧ c5 = c9 := by injection e9 with x1 x2 x3; exact ⟨x1, x3⟩
  exact ⟨⟨_, rfl, _, _, by rw [HL.out], r9⟩, by rw [← HA.out]; exact HE.out.2.2.2⟩

end Go.Proofs.Ytemmkkcfjhmomab
