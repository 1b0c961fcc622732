/-
  Lanes that are copied, and that are joined, by the program and by the reference. Conditions: the lane lies in memory, and is short.
-/
import Derived.Test.YtemmkkcfjhmomabCc
import Derived.Test.YtemmkkcfjhmomabOrQ
namespace Go.Proofs.Ytemmkkcfjhmomab
open Go.RowKit

/-- A lane as it is answered, and how it is read. -/
def LnV (w : World) (s : Int) (L : List Tk) (v : Value) : Prop := ∃ a c, v = .agg #[.int .u64 s, .slice a L.length c] ∧ SlR w a c L
theorem LnV.carry {w w' : World} {s : Int} {L : List Tk} {v : Value} (h : LnV w s L v) (b : Below w.heap.size w w') : LnV w' s L v := by
  obtain ⟨a, c, e, k⟩ := h
  exact ⟨a, c, e, k.carry b⟩
theorem OwnT.read {w : World} {B : Nat} {v : Value} {L : List Tk} (h : OwnT w B v L) : ∃ a c, v = .slice a L.length c ∧ SlR w a c L := tk_owned h
/-- The same, in memory of the call's own. -/
def LnO (w : World) (B : Nat) (s : Int) (L : List Tk) (v : Value) : Prop := ∃ a c, v = .agg #[.int .u64 s, .slice a L.length c] ∧ SlR w a c L ∧ OwnT w B (.slice a L.length c) L
theorem OwnT.lnO {w : World} {B B' : Nat} {s : Int} {a : Option Addr} {n c : Nat} {L : List Tk} (h : OwnT w B' (.slice a n c) L) (hn : n = L.length) (hB : B ≤ B') : LnO w B s L (.agg #[.int .u64 s, .slice a n c]) := by
  subst hn
  obtain ⟨a6, c6, e6, r6⟩ := h.read
  obtain ⟨rfl, -, rfl⟩ : a = a6 ∧ True ∧ c = c6 := by injection e6 with x1 x2 x3; exact ⟨x1, trivial, x3⟩
  exact ⟨a, c, rfl, r6, h.low hB⟩
theorem LnO.read {w : World} {B : Nat} {s : Int} {L : List Tk} {v : Value} (h : LnO w B s L v) : LnV w s L v := by
  obtain ⟨a, c, e, k, -⟩ := h
  exact ⟨a, c, e, k⟩
/-- What is read, and is of the call's own where it was found. -/
def LnW (w : World) (B : Nat) (s : Int) (L : List Tk) (v : Value) (b : Bool) : Prop := LnV w s L v ∧ (b = true → LnO w B s L v)
theorem OwnT.lnW {w : World} {B B' : Nat} {s : Int} {a : Option Addr} {n c : Nat} {L : List Tk} {b : Bool} (h : OwnT w B' (.slice a n c) L) (hn : n = L.length) (hB : B ≤ B') : LnW w B s L (.agg #[.int .u64 s, .slice a n c]) b :=
  ⟨(h.lnO hn (Nat.le_refl _)).read, fun _ => h.lnO hn hB⟩
theorem OwnT.kept {S : Nat → Prop} {w w' : World} {B : Nat} {v : Value} {L : List Tk} (h : OwnT w B v L) (k : Kept S w w') (hS : ∀ j, B ≤ j → ¬ S j) : OwnT w' B v L := by
  refine ⟨h.1, h.2.imp id ?_⟩
  rintro ⟨g, cap, cur, e, hb, hg, r⟩
  refine ⟨g, cap, cur, e, hb, ?_, r⟩
  have hlt : g < w.heap.size := by
    rcases Nat.lt_or_ge g w.heap.size with h1 | h1
    · exact h1
    · rw [Array.getElem?_eq_none h1] at hg; cases hg
  rw [k.block g hlt (hS g hb)]
  exact hg
theorem resLn25 (tmps : Array Value) (w : World) (g : Nat) {s : Int} {a : Option Addr} {n c : Nat} (ht : tmps[2]?.getD undef = .pointer (some ⟨g, 0, none⟩)) (h : Blk w g 38 (lnA s (.slice a n c))) :
    (results Try.f27 tmps).run Try.prog w = .ok (.agg #[.int .u64 s, .slice a n c]) w := by
  obtain ⟨⟨c0, c1⟩, -⟩ := h.lane
  simp [results, Try.results27, go_sem, ht, c0, c1]
theorem resLn17 (tmps : Array Value) (w : World) (g : Nat) {s : Int} {a : Option Addr} {n c : Nat} (ht : tmps[6]?.getD undef = .pointer (some ⟨g, 0, none⟩)) (h : Blk w g 38 (lnA s (.slice a n c))) :
    (results Try.f24 tmps).run Try.prog w = .ok (.agg #[.int .u64 s, .slice a n c]) w := by
  obtain ⟨⟨c0, c1⟩, -⟩ := h.lane
  simp [results, Try.results24, go_sem, ht, c0, c1]
set_option maxRecDepth 20000 in
set_option maxHeartbeats 1000000 in
theorem copied_ok (s : Int) (a : Option Addr) (c : Nat) (L : List Tk) (w : World) (h : SlR w a c L) (hl : L.length ≤ 2000) :
    Calls Try.prog 27 #[.agg #[.int .u64 s, .slice a L.length c]] w fun e w' => (∃ v, e = .returned (.agg #[.int .u64 s, v]) ∧ OwnT w' w.heap.size v L) ∧ Below w.heap.size w w' := by
  obtain ⟨w2, hw2⟩ : ∃ w2, w2 = (w.alloc (.cells #[.int .u64 s, .slice a L.length c] 38)).alloc (.cells #[.int .u64 0, .slice none 0 0] 38) := ⟨_, rfl⟩
  have BX := boxes w 38 38 #[.int .u64 s, .slice a L.length c] #[.int .u64 0, .slice none 0 0]
  rw [← hw2] at BX
  obtain ⟨B, N1, N2⟩ := BX
  have B' : Hd (Below w.heap.size w w2.drew) := ⟨B.drew⟩
  have M1 : Blk w2.drew w.heap.size 38 (lnA s (.slice a L.length c)) := N1
  have M2 : Blk w2.drew (w.heap.size + 1) 38 (lnA 0 (.slice none 0 0)) := N2
  have HS : Hd (SlR w2.drew a c L) := ⟨h.carry B'.out⟩
  have HZ : Hd (w.heap.size + 2 ≤ w2.drew.heap.size) := ⟨by have := N2.lt; show _ ≤ w2.heap.size; omega⟩
  clear N1 N2 B h
  obtain ⟨n, hn⟩ : ∃ n, L.length = n := ⟨_, rfl⟩
  have HL : Hd (L.length = n) := ⟨hn⟩
  rw [hn] at hl hw2 M1 ⊢
  clear hn
  go_enter Try.func27, Try.ntmps27
  go_upto_region 1 with fail
  rw [← hw2]
  clear hw2
  obtain ⟨A, hA⟩ : ∃ A, A = w.heap.size := ⟨_, rfl⟩
  have HA : Hd (A = w.heap.size) := ⟨hA⟩
  rw [← hA] at M1 M2 B' HZ ⊢
  clear hA
  refine AnyG.start (T := fun W => Blk W A 38 (lnA s (.slice a n c))) (U := fun _ => True) (j0 := 100) (by kernel_rfl) ?_
  generalize w2.drew = w3 at *
  have X0 : Hd (∀ W, Blk W A 38 (lnA s (.slice a n c)) → W.cell? ⟨A, 0, none⟩ = some (.int .u64 s)) := ⟨fun W q => q.cellv 0 rfl⟩
  have X1 : Hd (∀ W, Blk W A 38 (lnA s (.slice a n c)) → W.cell? ⟨A, 1, none⟩ = some (.slice a n c)) := ⟨fun W q => q.cellv 1 rfl⟩
  refine .tq 0 3 M1 ?_; simp only [oqA, oqB, oqC]
  refine .tq 1 4 M1 ?_ (hy := fun w hSw => by have s := X0.out w hSw; go_simp; rfl); simp only [oqA, oqB, oqC]
  refine .tq 2 5 M1 ?_; simp only [oqA, oqB, oqC]
  refine .tq 3 6 M1 ?_ (hy := fun w hSw => by have s := X1.out w hSw; go_simp; rfl); simp only [oqA, oqB, oqC]
  have CL := clone_ok a c L w3 HS.out (by have := HL.out; omega)
  rw [HL.out] at CL
  refine AnyG.ready (rs := [4]) (by kernel_rfl) (by simp) ?_
  refine AllG.cons rfl (fun K hK => ?_) AllG.nil
  go_simp
  refine CL.mono ?_
  rintro e w5 ⟨v5, rfl, o5, b5⟩
  have T3 : Blk w5 A 38 (lnA s (.slice a n c)) := M1.kept (Kept.of_below b5 (fun _ => False)) id
  have M3 : Blk w5 (A + 1) 38 (lnA 0 (.slice none 0 0)) := M2.kept (Kept.of_below b5 (fun _ => False)) id
  refine hK.out _ _ ⟨T3, fun _ => trivial⟩ ?_
  clear hK K CL
  obtain ⟨a5, c5, rfl, -⟩ := o5.read
  refine AnyG.ready (rs := [5]) (by kernel_rfl) (by simp) ?_
  refine AllG.cons rfl (fun K hK => ?_) AllG.nil
  go_simp
  refine hK.out _ _ ⟨T3, fun _ => trivial⟩ ?_
  clear hK K
  obtain ⟨⟨r0, r1⟩, f0, f1⟩ := M3.lane
  obtain ⟨q1, q2⟩ := lane_set M3 s (.slice a5 L.length c5)
  refine AnyG.ready (rs := [6]) (by kernel_rfl) (by simp) ?_
  refine AllG.cons rfl (fun K hK => ?_) AllG.nil
  go_simp
  refine hK.out _ _ ⟨T3.kept q2 (by omega), fun _ => trivial⟩ ?_
  clear hK K
  refine AnyG.done (by kernel_rfl) ?_ _
  go_wp2_with fail
  refine bodyPost_ret (resLn25 _ _ _ rfl q1) rfl ?_
  refine ⟨⟨_, rfl, ?_⟩, ?_⟩
  · rw [← HA.out]
    exact (o5.kept q2 (fun j hj e => by have := HZ.out; omega)).low (by have := HZ.out; omega)
  · rw [← HA.out]
    exact (B'.out.trans (b5.mono (by have := HZ.out; omega))).trans (q2.below (by have := HZ.out; have := b5.size; omega) (fun k e => by omega))

/-- A lane's time behind a join. -/
def jnS (s r : Int) (L : List Tk) : Int := if L = [] then max s r else s
theorem jnS_nil (s r : Int) : jnS s r [] = max s r := rfl
theorem jnS_some {s r : Int} {L : List Tk} (h : L ≠ []) : jnS s r L = s := if_neg h
theorem jnS_word {s r : Int} {L : List Tk} (hs : Word s) (hr : Word r) : Word (jnS s r L) := by
  unfold jnS
  obtain ⟨h1, h2⟩ := hs
  obtain ⟨h3, h4⟩ := hr
  split
  · exact ⟨by omega, by omega⟩
  · exact ⟨h1, h2⟩
theorem len_pos {L : List Tk} (h : L ≠ []) : 0 < L.length := by cases L with
  | nil => exact absurd rfl h
  | cons _ _ => simp
/-- The list of one ticket that is new. -/
theorem one_list {w : World} {g : Nat} {t : Tk} (h : Blk w g 30 (tkA t)) : SlR w (some ⟨g, 0, none⟩) 1 [t] := by
  refine ⟨Nat.le_refl _, (fun e => by cases e), fun _ => ⟨g, 0, rfl, h.lt, fun j u hj => ?_⟩⟩
  rw [Nat.zero_add, h.cell j]
  rw [tkCs_single] at hj
  simpa [tkA, tkC] using hj

set_option maxRecDepth 20000 in
set_option maxHeartbeats 1000000 in
theorem join_ok (s r : Int) (a : Option Addr) (c : Nat) (L : List Tk) (t : Tk) (w : World) (h : SlR w a c L) (hl : L.length ≤ 1999) :
    Calls Try.prog 24 #[.agg #[.int .u64 s, .slice a L.length c], .int .u64 r, .agg #[.int .i64 t.id, .int .i64 t.wid, .int .i64 t.sts, .int .i64 t.sin, .int .i64 t.unt]] w fun e w' => (∃ v, e = .returned v ∧ LnO w' w.heap.size (jnS s r L) (L ++ [t]) v) ∧ Below w.heap.size w w' := by
  obtain ⟨w2, hw2⟩ : ∃ w2, w2 = ((w.alloc (.cells #[.int .u64 s, .slice a L.length c] 38)).alloc (.cells #[.int .i64 t.id, .int .i64 t.wid, .int .i64 t.sts, .int .i64 t.sin, .int .i64 t.unt] 30)).alloc (.cells #[.int .u64 0, .slice none 0 0] 38) := ⟨_, rfl⟩
  have BX := boxes3 w 38 30 38 #[.int .u64 s, .slice a L.length c] #[.int .i64 t.id, .int .i64 t.wid, .int .i64 t.sts, .int .i64 t.sin, .int .i64 t.unt] #[.int .u64 0, .slice none 0 0]
  rw [← hw2] at BX
  obtain ⟨B, N1, N2, N3⟩ := BX
  obtain ⟨⟨c0, c1⟩, -⟩ := Blk.lane N1
  obtain ⟨⟨d0, d1, d2, d3, d4⟩, -⟩ := Blk.five (t := t) N2
  obtain ⟨B4, K1, K2⟩ := boxes w2 30 36 #[.int .i64 t.id, .int .i64 t.wid, .int .i64 t.sts, .int .i64 t.sin, .int .i64 t.unt] #[.slice a L.length c, .slice (some ⟨w2.heap.size, 0, none⟩) 1 1]
  have CC := concat_ok a (some ⟨w2.heap.size, 0, none⟩) c 1 (w2.heap.size + 1) L [t] _ ((h.carry B).carry B4) (one_list (t := t) K1) K2 (by omega) (by simp)
  obtain ⟨w4, hw4⟩ : ∃ w4, w4 = (w2.alloc (.cells #[.int .i64 t.id, .int .i64 t.wid, .int .i64 t.sts, .int .i64 t.sin, .int .i64 t.unt] 30)).alloc (.cells #[.slice a L.length c, .slice (some ⟨w2.heap.size, 0, none⟩) 1 1] 36) := ⟨_, rfl⟩
  rw [← hw4] at B4 CC
  have H : Hd (Below w.heap.size w w2 ∧ Below w2.heap.size w2 w4 ∧ Blk w2 (w.heap.size + 1 + 1) 38 (lnA 0 (.slice none 0 0))) := ⟨B, B4, N3⟩
  have GF : Hd (∀ w5 v5, OwnT w5 w4.heap.size v5 (L ++ [t]) → Below w4.heap.size w4 w5 → ∃ a5 c5, v5 = .slice a5 (L.length + 1) c5 ∧ Blk w5 (w.heap.size + 1 + 1) 38 (lnA 0 (.slice none 0 0)) ∧ ∀ z, Blk ((w5.setCell ⟨w.heap.size + 1 + 1, 0, none⟩ (.int .u64 z)).setCell ⟨w.heap.size + 1 + 1, 1, none⟩ (.slice a5 (L.length + 1) c5)) (w.heap.size + 1 + 1) 38 (lnA z (.slice a5 (L.length + 1) c5)) ∧ LnO ((w5.setCell ⟨w.heap.size + 1 + 1, 0, none⟩ (.int .u64 z)).setCell ⟨w.heap.size + 1 + 1, 1, none⟩ (.slice a5 (L.length + 1) c5)) w.heap.size z (L ++ [t]) (.agg #[.int .u64 z, .slice a5 (L.length + 1) c5]) ∧ Below w.heap.size w ((w5.setCell ⟨w.heap.size + 1 + 1, 0, none⟩ (.int .u64 z)).setCell ⟨w.heap.size + 1 + 1, 1, none⟩ (.slice a5 (L.length + 1) c5))) := ⟨fun w5 v5 o5 b5 => by
    have b25 : Below w2.heap.size w2 w5 := H.out.2.1.trans (b5.mono H.out.2.1.size)
    have M3 : Blk w5 (w.heap.size + 1 + 1) 38 (lnA 0 (.slice none 0 0)) := H.out.2.2.kept (Kept.of_below b25 (fun _ => False)) id
    have hz := H.out.2.2.lt
    obtain ⟨a5, c5, e5, -⟩ := o5.read
    rw [List.length_append] at e5
    have e5 : v5 = .slice a5 (L.length + 1) c5 := e5
    refine ⟨a5, c5, e5, M3, fun z => ?_⟩
    obtain ⟨q1, q2⟩ := lane_set M3 z (.slice a5 (L.length + 1) c5)
    refine ⟨q1, ?_, (H.out.1.trans (b25.mono H.out.1.size)).trans (q2.below (Nat.le_trans H.out.1.size b25.size) (fun k e => by omega))⟩
    have o6 := o5.kept q2 (fun j hj e => by have := H.out.2.1.size; omega)
    rw [e5] at o6
    exact o6.lnO (by rw [List.length_append]; rfl) (Nat.le_trans H.out.1.size H.out.2.1.size)⟩
  have HN : Hd (L = [] → L.length = 0) := ⟨fun e => by rw [e]; rfl⟩
  have HP : Hd (L ≠ [] → 0 < L.length) := ⟨len_pos⟩
  clear N1 N2 N3 B B4 K1 K2 h
  by_cases hn : L = []
  · have h0 := HN.out hn
    have HJ : Hd (jnS s r L = max s r) := ⟨by rw [hn]; rfl⟩
    rw [h0] at hw2 c1 hw4
    have hg := h0
    obtain ⟨t0, t1, t2, t3, t4⟩ := t
    simp only at *
    obtain ⟨n, hn'⟩ : ∃ n, n = L.length := ⟨_, rfl⟩
    rw [← hn'] at GF h0 ⊢
    clear HN HP hl hn hg
    subst h0
    clear hn'
    go_enter Try.func24, Try.ntmps24
    go_upto_region 1 with fail
    rw [← hw2]
    clear hw2
    go_upto_region 4 with fail
    go_wp2_with fail
    rw [← hw4]
    clear hw4 c0 c1 d0 d1 d2 d3 d4
    go_at_call 34
    refine CC.mono ?_
    rintro e w5 ⟨v5, rfl, o5, b5⟩
    obtain ⟨a5, c5, rfl, M3, Z⟩ := GF.out w5 v5 o5 b5
    obtain ⟨q1, q2, q3⟩ := Z (max s r)
    obtain ⟨⟨r0, r1⟩, f0, f1⟩ := M3.lane
    have Q : Hd (_ ∧ _ ∧ _) := ⟨q1, q2, q3⟩
    clear CC GF o5 b5 M3 Z q1 q2 q3
    go_wp2_with fail
    refine bodyPost_ret (resLn17 _ _ _ rfl Q.out.1) rfl ?_
    exact ⟨⟨_, rfl, by rw [HJ.out]; exact Q.out.2.1⟩, Q.out.2.2⟩
  · have h0 := HP.out hn
    have HJ : Hd (jnS s r L = s) := ⟨jnS_some hn⟩
    obtain ⟨t0, t1, t2, t3, t4⟩ := t
    simp only at *
    obtain ⟨n, hn'⟩ : ∃ n, n = L.length := ⟨_, rfl⟩
    rw [← hn'] at GF h0 hw2 c1 hw4 hl ⊢
    clear HN HP hn hn'
    go_enter Try.func24, Try.ntmps24
    go_upto_region 1 with fail
    rw [← hw2]
    clear hw2
    go_upto_region 4 with fail
    go_wp2_with fail
    rw [← hw4]
    clear hw4 c0 c1 d0 d1 d2 d3 d4
    go_at_call 34
    refine CC.mono ?_
    rintro e w5 ⟨v5, rfl, o5, b5⟩
    obtain ⟨a5, c5, rfl, M3, Z⟩ := GF.out w5 v5 o5 b5
    obtain ⟨q1, q2, q3⟩ := Z s
    obtain ⟨⟨r0, r1⟩, f0, f1⟩ := M3.lane
    have Q : Hd (_ ∧ _ ∧ _) := ⟨q1, q2, q3⟩
    clear CC GF o5 b5 M3 Z q1 q2 q3
    go_wp2_with fail
    refine bodyPost_ret (resLn17 _ _ _ rfl Q.out.1) rfl ?_
    exact ⟨⟨_, rfl, by rw [HJ.out]; exact Q.out.2.1⟩, Q.out.2.2⟩
end Go.Proofs.Ytemmkkcfjhmomab
