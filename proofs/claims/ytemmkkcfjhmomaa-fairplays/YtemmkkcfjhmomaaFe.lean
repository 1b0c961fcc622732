/-
  Lanes that are copied by the reference; another lane in the place of one, by the program. Conditions: the lanes lie in memory, and are few.
-/
import Derived.Test.YtemmkkcfjhmomaaFa
import Derived.Test.YtemmkkcfjhmomaaFd
namespace Go.Proofs.Ytemmkkcfjhmomaa
open Go.RowKit

theorem resFa11 (tmps : Array Value) (w : World) (b : Nat) {r g n o : Int} {a : Option Addr} {l c : Nat} (ht : tmps[2]?.getD undef = .pointer (some ⟨b, 0, none⟩)) (h : Blk w b 25 (faA r g n o (.slice a l c))) :
    (results Try.f11 tmps).run Try.prog w = .ok (.agg #[.int .u64 r, .int .i64 g, .int .i64 n, .int .i64 o, .slice a l c]) w := by
  obtain ⟨⟨c0, c1, c2, c3, c4⟩, -⟩ := h.fair
  simp [results, Try.results11, go_sem, ht, c0, c1, c2, c3, c4]
theorem resFa44 (tmps : Array Value) (w : World) (b : Nat) {r g n o : Int} {a : Option Addr} {l c : Nat} (ht : tmps[6]?.getD undef = .pointer (some ⟨b, 0, none⟩)) (h : Blk w b 25 (faA r g n o (.slice a l c))) :
    (results Try.f44 tmps).run Try.prog w = .ok (.agg #[.int .u64 r, .int .i64 g, .int .i64 n, .int .i64 o, .slice a l c]) w := by
  obtain ⟨⟨c0, c1, c2, c3, c4⟩, -⟩ := h.fair
  simp [results, Try.results44, go_sem, ht, c0, c1, c2, c3, c4]

set_option maxRecDepth 20000 in
set_option maxHeartbeats 1000000 in
theorem rcopy_ok (r g nn o : Int) (a : Option Addr) (c : Nat) (F : List Ln) (w : World) (h : LsR w a c F) (hf : Few F) :
    Calls Try.prog 11 #[.agg #[.int .u64 r, .int .i64 g, .int .i64 nn, .int .i64 o, .slice a F.length c]] w fun e w' => (∃ v, e = .returned v ∧ FaO w' w.heap.size r g nn o F v) ∧ Below w.heap.size w w' := by
  obtain ⟨w2, hw2⟩ : ∃ w2, w2 = (w.alloc (.cells #[.int .u64 r, .int .i64 g, .int .i64 nn, .int .i64 o, .slice a F.length c] 25)).alloc (.cells #[.int .u64 0, .int .i64 0, .int .i64 0, .int .i64 0, .slice none 0 0] 25) := ⟨_, rfl⟩
  have BX := boxes w 25 25 #[.int .u64 r, .int .i64 g, .int .i64 nn, .int .i64 o, .slice a F.length c] #[.int .u64 0, .int .i64 0, .int .i64 0, .int .i64 0, .slice none 0 0]
  rw [← hw2] at BX
  obtain ⟨B, N1, N2⟩ := BX
  have HF : Hd (Few F) := ⟨hf⟩
  have hl := hf.len
  obtain ⟨⟨x0, x1, x2, x3, x4⟩, -⟩ := Blk.fair N1
  obtain ⟨n, hn⟩ : ∃ n, F.length = n := ⟨_, rfl⟩
  have HL : Hd (F.length = n) := ⟨hn⟩
  have HN : Hd (LsR w2 a c F ∧ Below w.heap.size w w2 ∧ Blk w2 w.heap.size 25 (faA r g nn o (.slice a n c)) ∧ Blk w2 (w.heap.size + 1) 25 (faA 0 0 0 0 (.slice none 0 0))) := ⟨h.carry B, B, by rw [← hn]; exact N1, N2⟩
  rw [hn] at hl hw2 ⊢
  clear hn N1 N2 B h hf x0 x1 x2 x3
  go_enter Try.func11, Try.ntmps11
  go_upto_region 1 with fail
  rw [← hw2]
  clear hw2
  obtain ⟨A, hA⟩ : ∃ A, A = w.heap.size := ⟨_, rfl⟩
  have HA : Hd (A = w.heap.size) := ⟨hA⟩
  rw [← hA] at HN ⊢
  clear hA
  have h2A : A + 2 ≤ w2.heap.size := by have := HN.out.2.2.2.lt; omega
  go_wp2
  go_loopw [3, 4] (fun v i wr => ∃ k : Nat, k ≤ n ∧ i = .int .i64 k ∧ OwL wr w2.heap.size v (F.take k) ∧ Below w2.heap.size w2 wr) (fun _ i _ => n - (intOf i).toNat)
  case atStart => exact ⟨0, Nat.zero_le _, rfl, OwL.nil _ _, Below.refl _ _⟩
  case round =>
    obtain ⟨k, hk, rfl, OK, p3⟩ := hrel
    have NA : Blk wr A 25 (faA r g nn o (.slice a n c)) := HN.out.2.2.1.kept (Kept.of_below p3 (fun _ => False)) id
    have NR : Blk wr (A + 1) 25 (faA 0 0 0 0 (.slice none 0 0)) := HN.out.2.2.2.kept (Kept.of_below p3 (fun _ => False)) id
    by_cases hlt : k < n
    · obtain ⟨⟨-, -, -, -, x4⟩, -⟩ := NA.fair
      obtain ⟨b1, o1, a1, c1, rfl, hb1, d0, d1, s1⟩ := (HN.out.1.carry p3).at (k := k) (by rw [HL.out]; exact hlt)
      have CP := copy_ok (gl F k).s a1 c1 (gl F k).L wr s1 (by have := (HF.out.at k).2; omega)
      have PS := p3.size
      have HT : Hd (F.take (k + 1) = F.take k ++ [gl F k] ∧ (F.take k).length = k) := ⟨by rw [List.take_add_one, gl_get (by have := HL.out; omega)]; rfl, by rw [List.length_take]; have := HL.out; omega⟩
      have P : Hd (Below w2.heap.size w2 wr ∧ OwL wr w2.heap.size u3 (F.take k)) := ⟨p3, OK⟩
      clear p3 OK NA NR s1
      generalize (gl F k).L.length = m at *
      obtain ⟨s, hs⟩ : ∃ s, s = (gl F k).s := ⟨_, rfl⟩
      have HS : Hd ((gl F k).s = s) := ⟨hs.symm⟩
      rw [← hs] at d0 CP
      clear hs
      go_wp2_with fail
      go_at_call 37
      refine CP.mono ?_
      rintro e w5 ⟨⟨v5, rfl, o5⟩, b5⟩
      clear CP x4 d0 d1
      obtain ⟨w6, hw6⟩ : ∃ w6, w6 = w5.alloc (.cells #[.int .u64 s, v5] 65) := ⟨_, rfl⟩
      have B6 : Below w5.heap.size w5 w6 := by rw [hw6]; exact alloc_below _ _
      have B36 : Below wr.heap.size wr w6 := b5.trans (B6.mono b5.size)
      have N6 : Blk w6 w5.heap.size 65 (lnA s v5) := by rw [hw6]; exact Blk.new _ _ _
      have O6 : Hd (OwL w6 w2.heap.size u3 (F.take k) ∧ RowR w6 (some ⟨w5.heap.size, 0, none⟩) (zCs [((gl F k), v5)]) ∧ OwnT w6 w2.heap.size v5 (gl F k).L ∧ Below w2.heap.size w2 w6) :=
        ⟨P.out.2.kept (Kept.of_below B36 (fun _ => False)) (fun _ _ h => h), lane_row N6 _ HS.out, (o5.kept (Kept.of_below B6 (fun _ => False)) (fun _ _ h => h)).low PS, P.out.1.trans (B36.mono PS)⟩
      clear o5 b5 B6 B36 N6 P
      subst hw6
      go_wp2_with (at_builtin; refine wpl_own rfl _ _ rfl w2.heap.size _ (F.take k) [((gl F k), v5)] rfl O6.out.1 (some ⟨w5.heap.size, 0, none⟩) 1 1 rfl rfl (by decide) (fun e => by cases e) O6.out.2.1 (fun z hz => by rw [List.mem_singleton.1 hz]; exact O6.out.2.2.1) (by have := HT.out.2; simp at *; omega) O6.out.2.2.2.size ?_; intro v7 w7 o7 g7)
      have R7 : Hd (_ ∧ _) := ⟨o7, O6.out.1.below O6.out.2.2.2 O6.out.2.2.2.size g7⟩
      clear o7 g7
      go_wp2
      go_roundw
      case rel => exact ⟨k + 1, by omega, by go_num, by rw [HT.out.1]; exact R7.out.1, R7.out.2⟩
      case measure => simp [intOf]; omega
    · obtain rfl : k = n := by omega
      rw [List.take_of_length_le (by have := HL.out; omega)] at OK
      obtain ⟨a9, c9, e9, -⟩ := OK.read
      rw [HL.out] at e9
      subst e9
      obtain ⟨⟨x0, x1, x2, x3, x4⟩, xf0, xf1, xf2, xf3, xf4⟩ := NA.fair
      obtain ⟨q1, k1⟩ := fair_lanes NA (.slice a9 k c9)
      have NR' := NR.kept k1 (by omega)
      obtain ⟨q2, k2⟩ := fair_set NR' r g nn o (.slice a9 k c9)
      obtain ⟨⟨y0, y1, y2, y3, y4⟩, yf0, yf1, yf2, yf3, yf4⟩ := NR'.fair
      obtain ⟨⟨z0, z1, z2, z3, z4⟩, -⟩ := q1.fair
      have HE : Hd (_ ∧ _ ∧ _) := ⟨q2, (OK.kept k1 (fun j hj e => by omega)).kept k2 (fun j hj e => by omega), (HN.out.2.1.trans (p3.mono (by omega))).trans ((k1.below (B := A) (by have := p3.size; omega) (fun k e => by omega)).trans (k2.below (B := A) (by have := k1.size; have := p3.size; omega) (fun k e => by omega)))⟩
      clear OK NA NR NR' q1 q2 k1 k2 p3
      go_wp2_with fail
      refine bodyPost_ret (resFa11 _ _ _ rfl HE.out.1) rfl ?_
      rw [← HA.out]
      exact ⟨⟨_, rfl, _, rfl, HE.out.2.1.low (by omega)⟩, HE.out.2.2⟩
end Go.Proofs.Ytemmkkcfjhmomaa
