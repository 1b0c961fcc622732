/-
  The walk of 'BookOnce'. Condition: the script lies in memory.
-/
import Derived.Test.YtomkmgebbiahcaaAw
import Derived.Test.YtomkmgebbiahcaaBs
import Derived.Test.YtomkmgebbiahcaaRowV
namespace Go.Proofs.Ytomkmgebbiahcaa
open Go.RowKit

/-- What is answered is empty where it isn't 0. -/
theorem bg_none {x : En} {L : List En} (h : bgE x L ≠ 0) : bgL x L = [] := if_neg h
theorem mv_nil {d p : Int} {L : List En} (h : mvE d p L ≠ 0) : mvL d p L = [] := if_neg h
/-- A step that goes through. -/
structure Ok1 (d p : Int) (bg : Bool) (L M : List En) : Prop where
  has : fB d M = true
  now : (fE d M).ph = p
  had : fB d L = (if bg then false else true)
  more : bg = false → (fE d L).ph < p
  over : (fE d L).ph ≠ 3
  len : M.length = L.length + if bg then 1 else 0
  good : Gd M
theorem Ok1.begin {d p : Int} {L : List En} (g : Gd L) (h : bgE ⟨d, p, ⟨#[]⟩⟩ L = 0) : Ok1 d p true L (bgL ⟨d, p, ⟨#[]⟩⟩ L) := by
  have hl : bgL ⟨d, p, ⟨#[]⟩⟩ L = L ++ [⟨d, p, ⟨#[]⟩⟩] := if_pos h
  obtain ⟨h1, h2, h3⟩ := find_begin h
  obtain ⟨ho, hb⟩ := bg_yes h
  simp only at h2 h3 hb
  rw [hl]
  refine ⟨h3, by rw [h2], hb, fun e => (by cases e), ?_, by simp, g.begin h⟩
  rw [fE_no hb]; decide
theorem Ok1.move {d p : Int} {L : List En} (g : Gd L) (h : mvE d p L = 0) : Ok1 d p false L (mvL d p L) := by
  have hl : mvL d p L = L.set (fI d L) { fE d L with ph := p } := if_pos h
  obtain ⟨h1, h2⟩ := find_move h
  obtain ⟨hb, q1, q2, q3⟩ := mv_yes h
  rw [hl]
  refine ⟨h2, by rw [h1], hb, fun _ => q3, by omega, by simp, g.move h⟩

set_option maxRecDepth 20000 in
set_option maxHeartbeats 1000000 in
theorem once_law (a : Option Addr) (m c : Nat) (o : Nat → Oq) (w : World) (h : OpR w a m o) :
    Calls Try.prog 4 #[.slice a m c] w fun e w' => e = .returned (.bool true) ∧ Below w.heap.size w w' := by
  have I := awake_ok w
  have H : Hd (∀ W, Below w.heap.size w W → OpR W a m o) := ⟨fun W b => h.carry b⟩
  have CB : Hd (∀ W (s : Option Addr) q (L : List En) n d p, SlE W s q L → L.length = n → n ≤ 200 → Calls Try.prog 7 #[.slice s n q, .agg #[.int .i64 d, .int .i64 p, .string ⟨#[]⟩]] W fun e w' => Ans W w' e (bgL ⟨d, p, ⟨#[]⟩⟩ L) (bgE ⟨d, p, ⟨#[]⟩⟩ L)) := ⟨fun W s q L n d p r e hn => by subst e; exact begin_ok s q L ⟨d, p, ⟨#[]⟩⟩ W r (by omega)⟩
  have CM : Hd (∀ W (s : Option Addr) q (L : List En) n d p, SlE W s q L → L.length = n → n ≤ 200 → Calls Try.prog 10 #[.slice s n q, .int .i64 d, .int .i64 p] W fun e w' => Ans W w' e (mvL d p L) (mvE d p L)) := ⟨fun W s q L n d p r e hn => by subst e; exact move_ok s q L d p W r (by omega)⟩
  have CF : Hd (∀ W (s : Option Addr) q (L : List En) n d, SlE W s q L → L.length = n → n ≤ 300 → Calls Try.prog 12 #[.slice s n q, .int .i64 d] W fun e w' => e = .returned (fdV d L) ∧ Below W.heap.size W w') := ⟨fun W s q L n d r e hn => by subst e; exact find_ok s q L d W r.2.2 (by omega)⟩
  have CC : Hd (∀ W (s : Option Addr) q (L : List En) n, SlE W s q L → L.length = n → n ≤ 300 → Calls Try.prog 14 #[.slice s n q] W fun e w' => e = .returned (.tuple #[.int .i64 (cnt L 1 L.length), .int .i64 (cnt L 2 L.length), .int .i64 (cnt L 3 L.length)]) ∧ Below W.heap.size W w') := ⟨fun W s q L n r e hn => by subst e; exact count_ok s q L W r.2.2 (by omega)⟩
  clear h
  go_enter Try.func4, Try.ntmps4
  go_upto_region 3 with (go_at_call 6; refine I.mono ?_; rintro e w2 ⟨rfl, b2⟩)
  go_wp2_with fail
  have B2 : Hd (Below w.heap.size w w2) := ⟨b2⟩
  clear I b2
  go_loopw [3, 4] (fun v i wr => Below w.heap.size w wr ∧ ∃ (k : Nat) (L : List En), k ≤ m ∧ k ≤ 200 ∧ i = .int .i64 k ∧ L.length ≤ k ∧ Gd L ∧ ∃ s q, v = .slice s L.length q ∧ SlE wr s q L) (fun _ i _ => 200 - (intOf i).toNat)
  case atStart => exact ⟨B2.out, 0, [], Nat.zero_le _, Nat.zero_le _, rfl, Nat.le_refl _, Gd.nil, none, 0, rfl, Nat.le_refl _, fun _ => rfl, EnR.nil _ _⟩
  case round =>
    obtain ⟨p3, k, L, hk1, hk2, rfl, hLk, gd, s, q, rfl, hs⟩ := hrel
    by_cases hlt : k < m ∧ k < 200
    · obtain ⟨hl1, hl2⟩ := hlt
      have G : Hd (Gd L) := ⟨gd⟩
      obtain ⟨b, off, rfl, hb1, hc⟩ := H.out wr p3 (by omega)
      obtain ⟨d0, d1, d2⟩ := hc k hl1
      have HS : Hd (SlE wr s q L ∧ Below w.heap.size w wr) := ⟨hs, p3⟩
      clear hc hb1 hs p3 gd
      generalize o k = z at *
      obtain ⟨bg, d, p⟩ := z
      simp only at d0 d1 d2
      obtain ⟨n, hn⟩ : ∃ n, n = L.length := ⟨_, rfl⟩
      have HN : Hd (L.length = n) := ⟨hn.symm⟩
      rw [← hn] at hLk ⊢
      clear hn
      obtain ⟨w4, hw4⟩ : ∃ w4, w4 = wr.alloc (.cells #[.bool bg, .int .i64 d, .int .i64 p] 42) := ⟨_, rfl⟩
      have q4 : Below wr.heap.size wr w4 := by rw [hw4]; exact alloc_below _ _
      have N4 : Blk w4 wr.heap.size 42 #[.bool bg, .int .i64 d, .int .i64 p] := by rw [hw4]; exact Blk.new _ _ _
      have H4 : Hd (∀ W, Below w4.heap.size w4 W → Blk W wr.heap.size 42 #[.bool bg, .int .i64 d, .int .i64 p] ∧ SlE W s q L ∧ Below w.heap.size w W) := ⟨fun W b => ⟨N4.kept (Kept.of_below b (fun _ => False)) id, (HS.out.1.carry q4).carry b, (HS.out.2.trans (q4.mono HS.out.2.size)).trans (b.mono (Nat.le_trans HS.out.2.size q4.size))⟩⟩
      clear q4 N4 HS
      go_upto_region 8 with fail
      rw [← hw4]
      clear hw4 d0 d1 d2
      generalize wr.heap.size = g at *
      obtain ⟨x1, x2, x3⟩ := H4.out w4 (Below.refl _ _)
      have d1 := x1.cellv (v := .int .i64 d) 1 rfl
      have C := CF.out w4 s q L n d x2 HN.out (by omega)
      unfold fdV enV at C
      clear x1 x2 x3
      go_wp2_with fail
      go_at_call 12
      refine C.mono ?_
      rintro e w5 ⟨rfl, b5⟩
      obtain ⟨w6, hw6⟩ : ∃ w6, w6 = w5.alloc (.cells #[.int .i64 (fE d L).id, .int .i64 (fE d L).ph, .string (fE d L).lv] 24) := ⟨_, rfl⟩
      have q6 : Below w4.heap.size w4 w6 := by rw [hw6]; exact b5.alloc b5.size _
      have N6 : Blk w6 w5.heap.size 24 (enA (fE d L)) := by rw [hw6]; exact Blk.new _ _ _
      have H6 : Hd (∀ W, Below w6.heap.size w6 W → Blk W g 42 #[.bool bg, .int .i64 d, .int .i64 p] ∧ SlE W s q L ∧ Below w.heap.size w W ∧ Blk W w5.heap.size 24 (enA (fE d L))) := ⟨fun W b => by
        obtain ⟨y1, y2, y3⟩ := H4.out W (q6.trans (b.mono q6.size))
        exact ⟨y1, y2, y3, N6.kept (Kept.of_below b (fun _ => False)) id⟩⟩
      clear C d1 b5 q6 N6 H4
      go_upto_region 9 with fail
      rw [← hw6]
      clear hw6
      generalize w5.heap.size = g5 at *
      go_upto_region 11 with fail
      obtain ⟨x1, x2, x3, x4⟩ := H6.out w6 (Below.refl _ _)
      have d0 := x1.cellv (v := .bool bg) 0 rfl
      have d1 := x1.cellv (v := .int .i64 d) 1 rfl
      have d2 := x1.cellv (v := .int .i64 p) 2 rfl
      have C1 := CB.out w6 s q L n d p x2 HN.out (by omega)
      have C2 := CM.out w6 s q L n d p x2 HN.out (by omega)
      clear x1 x2 x3 x4 CB CM
      cases bg
      · have OK : Hd (mvE d p L = 0 → Ok1 d p false L (mvL d p L)) := ⟨Ok1.move G.out⟩
        have NO : Hd (mvE d p L ≠ 0 → mvL d p L = []) := ⟨mv_nil⟩
        clear C1
        generalize mvE d p L = E at *
        generalize mvL d p L = M at *
        go_wp2_with fail
        go_at_call 10
        refine C2.mono ?_
        rintro e w7 ⟨⟨v7, rfl, o7⟩, b7⟩
        by_cases hE : E = 0
        · obtain ⟨k1, k2, k3, k4, k5, k6, k7⟩ := OK.out hE
          subst hE
          obtain ⟨a7, c7, rfl, s7⟩ := o7.read
          have H7 : Hd (∀ W, Below w7.heap.size w7 W → Blk W g 42 #[.bool false, .int .i64 d, .int .i64 p] ∧ Below w.heap.size w W ∧ Blk W g5 24 (enA (fE d L)) ∧ SlE W a7 c7 M) := ⟨fun W b => by
            obtain ⟨y1, y2, y3, y4⟩ := H6.out W (b7.trans (b.mono b7.size))
            exact ⟨y1, y3, y4, s7.carry b⟩⟩
          have hml : M.length ≤ n + 1 := by have := HN.out; rw [k6]; simp; omega
          have C3 := CF.out w7 a7 c7 M M.length d s7 rfl (by omega)
          unfold fdV enV at C3
          rw [k1] at C3
          have KK : Hd (_ ∧ _ ∧ _) := ⟨k3, k6, k7⟩
          rw [k3] at *
          clear C2 d0 d1 d2 o7 b7 s7 OK NO H6 k1 k3 k6 k7
          have k4' := k4
          clear k4
          obtain ⟨x1, x2, x3, x4⟩ := H7.out w7 (Below.refl _ _)
          have d1 := x1.cellv (v := .int .i64 d) 1 rfl
          clear x1 x2 x3 x4
          go_wp2_with fail
          go_at_call 12
          refine C3.mono ?_
          rintro e w8 ⟨rfl, b8⟩
          obtain ⟨w9, hw9⟩ : ∃ w9, w9 = w8.alloc (.cells #[.int .i64 (fE d M).id, .int .i64 (fE d M).ph, .string (fE d M).lv] 24) := ⟨_, rfl⟩
          have q9 : Below w7.heap.size w7 w9 := by rw [hw9]; exact b8.alloc b8.size _
          have N9 : Blk w9 w8.heap.size 24 (enA (fE d M)) := by rw [hw9]; exact Blk.new _ _ _
          obtain ⟨x1, x2, x3, x4⟩ := H7.out w9 q9
          have d0 := x1.cellv (v := .bool false) 0 rfl
          have d2 := x1.cellv (v := .int .i64 p) 2 rfl
          have e1 := x3.cellv (v := .int .i64 (fE d L).ph) 1 rfl
          have f1 := N9.cellv (v := .int .i64 (fE d M).ph) 1 rfl
          rw [k2] at f1
          have C4 := CC.out w9 a7 c7 M M.length x4 rfl (by omega)
          rw [k2] at hw9
          have Q9 : Hd (Below w.heap.size w w9 ∧ SlE w9 a7 c7 M) := ⟨x2, x4⟩
          clear d1 x1 x2 x3 x4 q9 N9 C3 b8 H7
          generalize (fE d M).id = u0 at *
          generalize (fE d M).lv = u2 at *
          generalize (fE d L).id = v0 at *
          generalize (fE d L).lv = v2 at *
          generalize (fE d L).ph = v1 at *
          go_upto_region 18 with fail
          rw [← hw9]
          clear hw9
          generalize w8.heap.size = g8 at *
          have SUM := cnt_sum (L := M) (k := M.length) (fun j hj => KK.out.2.2.ph j hj)
          have L1 := cnt_lo M 1 M.length
          have L2 := cnt_lo M 2 M.length
          have L3 := cnt_lo M 3 M.length
          obtain ⟨m2, hm2⟩ : ∃ m2, m2 = M.length := ⟨_, rfl⟩
          have HM : Hd (M.length = m2) := ⟨hm2.symm⟩
          rw [← hm2] at C4 SUM L1 L2 L3 ⊢
          clear hm2
          generalize cnt M 1 m2 = t1 at *
          generalize cnt M 2 m2 = t2 at *
          generalize cnt M 3 m2 = t3 at *
          have f2 : m2 = n := by have h1 := HN.out; have h2 := KK.out.2.1; rw [HM.out, h1] at h2; simpa using h2
          subst f2
          have f3 : decide (p ≤ v1) = false := by rw [decide_eq_false_iff_not]; have := k4' (by trivial); omega
          clear k4'
          have f4 : (v1 == 3) = false := by rw [beq_eq_false_iff_ne]; exact k5
          clear k5
          go_big_wp2_with fail
          go_at_call 14
          refine C4.mono ?_
          rintro e w10 ⟨rfl, b10⟩
          have hsum : t1 + t2 + t3 = (m2 : Int) := SUM
          have hm3 : m2 ≤ 300 := by have := HM.out; omega
          have R : Hd (_ ∧ _ ∧ _ ∧ M.length ≤ k + 1) := ⟨Q9.out.1.trans (b10.mono Q9.out.1.size), Q9.out.2.carry b10, KK.out.2.2, by have := HN.out; omega⟩
          clear b10 KK Q9 C4
          go_big_wp2_with fail
          exact ⟨⟨R.out.1, k + 1, M, by omega, by omega, by go_num, R.out.2.2.2, R.out.2.2.1, a7, c7, by rw [HM.out], R.out.2.1⟩, by simp [intOf]; omega⟩
        · have hE' : (E != 0) = true := by simpa using hE
          have := NO.out hE
          subst this
          obtain ⟨a7, c7, rfl, -⟩ := o7.read
          obtain ⟨y1, y2, y3, y4⟩ := H6.out w7 b7
          have R : Hd (_ ∧ _) := ⟨y2, y3⟩
          clear C2 d0 d1 d2 y1 y2 y3 y4 o7 OK NO H6 b7 hE
          go_wp2
          go_roundw
          case rel => exact ⟨R.out.2, k + 1, L, by omega, by omega, by go_num, by have := HN.out; omega, G.out, s, q, by rw [HN.out], R.out.1⟩
          case measure => simp [intOf]; omega
      · have OK : Hd (bgE ⟨d, p, ⟨#[]⟩⟩ L = 0 → Ok1 d p true L (bgL ⟨d, p, ⟨#[]⟩⟩ L)) := ⟨Ok1.begin G.out⟩
        have NO : Hd (bgE ⟨d, p, ⟨#[]⟩⟩ L ≠ 0 → bgL ⟨d, p, ⟨#[]⟩⟩ L = []) := ⟨bg_none⟩
        clear C2
        generalize bgE ⟨d, p, ⟨#[]⟩⟩ L = E at *
        generalize bgL ⟨d, p, ⟨#[]⟩⟩ L = M at *
        go_wp2_with fail
        go_at_call 7
        refine C1.mono ?_
        rintro e w7 ⟨⟨v7, rfl, o7⟩, b7⟩
        by_cases hE : E = 0
        · obtain ⟨k1, k2, k3, k4, k5, k6, k7⟩ := OK.out hE
          subst hE
          obtain ⟨a7, c7, rfl, s7⟩ := o7.read
          have H7 : Hd (∀ W, Below w7.heap.size w7 W → Blk W g 42 #[.bool true, .int .i64 d, .int .i64 p] ∧ Below w.heap.size w W ∧ Blk W g5 24 (enA (fE d L)) ∧ SlE W a7 c7 M) := ⟨fun W b => by
            obtain ⟨y1, y2, y3, y4⟩ := H6.out W (b7.trans (b.mono b7.size))
            exact ⟨y1, y3, y4, s7.carry b⟩⟩
          have hml : M.length ≤ n + 1 := by have := HN.out; rw [k6]; simp; omega
          have C3 := CF.out w7 a7 c7 M M.length d s7 rfl (by omega)
          unfold fdV enV at C3
          rw [k1] at C3
          have KK : Hd (_ ∧ _ ∧ _) := ⟨k3, k6, k7⟩
          rw [k3] at *
          clear C1 d0 d1 d2 o7 b7 s7 OK NO H6 k1 k3 k6 k7
          have k4' := k4
          clear k4
          obtain ⟨x1, x2, x3, x4⟩ := H7.out w7 (Below.refl _ _)
          have d1 := x1.cellv (v := .int .i64 d) 1 rfl
          clear x1 x2 x3 x4
          go_wp2_with fail
          go_at_call 12
          refine C3.mono ?_
          rintro e w8 ⟨rfl, b8⟩
          obtain ⟨w9, hw9⟩ : ∃ w9, w9 = w8.alloc (.cells #[.int .i64 (fE d M).id, .int .i64 (fE d M).ph, .string (fE d M).lv] 24) := ⟨_, rfl⟩
          have q9 : Below w7.heap.size w7 w9 := by rw [hw9]; exact b8.alloc b8.size _
          have N9 : Blk w9 w8.heap.size 24 (enA (fE d M)) := by rw [hw9]; exact Blk.new _ _ _
          obtain ⟨x1, x2, x3, x4⟩ := H7.out w9 q9
          have d0 := x1.cellv (v := .bool true) 0 rfl
          have d2 := x1.cellv (v := .int .i64 p) 2 rfl
          have e1 := x3.cellv (v := .int .i64 (fE d L).ph) 1 rfl
          have f1 := N9.cellv (v := .int .i64 (fE d M).ph) 1 rfl
          rw [k2] at f1
          have C4 := CC.out w9 a7 c7 M M.length x4 rfl (by omega)
          rw [k2] at hw9
          have Q9 : Hd (Below w.heap.size w w9 ∧ SlE w9 a7 c7 M) := ⟨x2, x4⟩
          clear d1 x1 x2 x3 x4 q9 N9 C3 b8 H7
          generalize (fE d M).id = u0 at *
          generalize (fE d M).lv = u2 at *
          generalize (fE d L).id = v0 at *
          generalize (fE d L).lv = v2 at *
          generalize (fE d L).ph = v1 at *
          go_upto_region 18 with fail
          rw [← hw9]
          clear hw9
          generalize w8.heap.size = g8 at *
          have SUM := cnt_sum (L := M) (k := M.length) (fun j hj => KK.out.2.2.ph j hj)
          have L1 := cnt_lo M 1 M.length
          have L2 := cnt_lo M 2 M.length
          have L3 := cnt_lo M 3 M.length
          obtain ⟨m2, hm2⟩ : ∃ m2, m2 = M.length := ⟨_, rfl⟩
          have HM : Hd (M.length = m2) := ⟨hm2.symm⟩
          rw [← hm2] at C4 SUM L1 L2 L3 ⊢
          clear hm2
          generalize cnt M 1 m2 = t1 at *
          generalize cnt M 2 m2 = t2 at *
          generalize cnt M 3 m2 = t3 at *
          have f2 : m2 = n + 1 := by have h1 := HN.out; have h2 := KK.out.2.1; rw [HM.out, h1] at h2; simpa using h2
          have f3 : ((m2 : Int) != (n : Int)) = true := by rw [bne_iff_ne]; omega
          have f5 : ((m2 : Int) != (n : Int) + 1) = false := by rw [bne_eq_false_iff_eq]; omega
          clear f2
          have f4 : (v1 == 3) = false := by rw [beq_eq_false_iff_ne]; exact k5
          clear k5
          go_big_wp2_with fail
          go_at_call 14
          refine C4.mono ?_
          rintro e w10 ⟨rfl, b10⟩
          have hsum : t1 + t2 + t3 = (m2 : Int) := SUM
          have hm3 : m2 ≤ 300 := by have := HM.out; omega
          have R : Hd (_ ∧ _ ∧ _ ∧ M.length ≤ k + 1) := ⟨Q9.out.1.trans (b10.mono Q9.out.1.size), Q9.out.2.carry b10, KK.out.2.2, by have := HN.out; omega⟩
          clear b10 KK Q9 C4
          go_big_wp2_with fail
          exact ⟨⟨R.out.1, k + 1, M, by omega, by omega, by go_num, R.out.2.2.2, R.out.2.2.1, a7, c7, by rw [HM.out], R.out.2.1⟩, by simp [intOf]; omega⟩
        · have hE' : (E != 0) = true := by simpa using hE
          have := NO.out hE
          subst this
          obtain ⟨a7, c7, rfl, -⟩ := o7.read
          obtain ⟨y1, y2, y3, y4⟩ := H6.out w7 b7
          have R : Hd (_ ∧ _) := ⟨y2, y3⟩
          clear C1 d0 d1 d2 y1 y2 y3 y4 o7 OK NO H6 b7 hE
          go_wp2
          go_roundw
          case rel => exact ⟨R.out.2, k + 1, L, by omega, by omega, by go_num, by have := HN.out; omega, G.out, s, q, by rw [HN.out], R.out.1⟩
          case measure => simp [intOf]; omega
    · have HS : Hd (SlE wr s q L ∧ Below w.heap.size w wr ∧ Gd L) := ⟨hs, p3, gd⟩
      have hx : ¬ k < m ∨ (k < m ∧ ¬ k < 200) := by omega
      obtain ⟨n, hn⟩ : ∃ n, n = L.length := ⟨_, rfl⟩
      have HN : Hd (L.length = n) := ⟨hn.symm⟩
      rw [← hn] at hLk ⊢
      clear hn hs p3 gd hlt CB CM CF CC H
      rcases hx with hx | ⟨hx, hx2⟩
      all_goals
        go_wp2
        obtain ⟨wo, hwo⟩ : ∃ wo, wo = wr := ⟨_, rfl⟩
        subst hwo
        clear hx
        go_loopw [15] (fun i wx => Below wo.heap.size wo wx ∧ ∃ j : Nat, j ≤ n ∧ i = .int .i64 j) (fun i _ => n - (intOf i).toNat)
        case atStart => exact ⟨Below.refl _ _, 0, Nat.zero_le _, rfl⟩
        case round =>
          obtain ⟨pb, j, hj, rfl⟩ := hrel
          by_cases hjl : j < n
          · have PB : Hd (Below wo.heap.size wo wr) := ⟨pb⟩
            clear pb
            go_wp2
            go_loopw [16] (fun i wx => Below wo.heap.size wo wx ∧ ∃ t : Nat, t ≤ j ∧ i = .int .i64 t) (fun i _ => j - (intOf i).toNat)
            case atStart => exact ⟨PB.out, 0, Nat.zero_le _, rfl⟩
            case round =>
              obtain ⟨pc, t, ht, rfl⟩ := hrel
              by_cases htl : t < j
              · have htn : t < n := by omega
                obtain ⟨b, off, ea, -, d0, d1, d2⟩ := (HS.out.1.carry pc).2.2.at (k := j) (by rw [HN.out]; exact hjl)
                obtain ⟨b', off', eb, -, c0, c1, c2⟩ := (HS.out.1.carry pc).2.2.at (k := t) (by rw [HN.out]; exact htn)
                subst ea
                injection eb with eb
                injection eb with e1 e2
                subst e1 e2
                have ne := HS.out.2.2.one t j htl (by rw [HN.out]; exact hjl)
                have ne' : ((ge L j).id == (ge L t).id) = false := by rw [beq_eq_false_iff_ne]; exact fun e => ne e.symm
                have PC : Hd (Below wo.heap.size wo wr) := ⟨pc⟩
                clear c1 c2 d1 d2 ne pc
                generalize (ge L j).id = y at *
                generalize (ge L t).id = z at *
                go_wp2
                go_quiet (fail)
                go_wp2
                go_roundw
                case rel => exact ⟨⟨PC.out.os, PC.out.tape, PC.out.output, PC.out.size, PC.out.block⟩, t + 1, by omega, by go_num⟩
                case measure => simp [intOf]; omega
              · obtain rfl : t = j := by omega
                have PC : Hd (Below wo.heap.size wo wr) := ⟨pc⟩
                clear pc
                go_wp2
                go_roundw
                case rel => exact ⟨PC.out, t + 1, by omega, by go_num⟩
                case measure => simp [intOf]; omega
          · obtain rfl : j = n := by omega
            have PB : Hd (Below w.heap.size w wr) := ⟨HS.out.2.1.trans (pb.mono HS.out.2.1.size)⟩
            clear pb
            go_wp2
            go_ret
            exact ⟨rfl, PB.out⟩
end Go.Proofs.Ytomkmgebbiahcaa
