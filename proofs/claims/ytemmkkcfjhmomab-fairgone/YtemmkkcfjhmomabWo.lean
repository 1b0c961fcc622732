/-
  A lane without one who waits, by the program. Conditions: the lane lies in memory, and is short.
-/
import Derived.Test.YtemmkkcfjhmomabJn
namespace Go.Proofs.Ytemmkkcfjhmomab
open Go.RowKit

theorem SlR.take {w : World} {a : Option Addr} {c : Nat} {L : List Tk} (h : SlR w a c L) (i : Nat) : SlR w a c (L.take i) := by
  refine ⟨Nat.le_trans (by simp; omega) h.1, h.2.1, TkR.take (M := L.drop i) ?_⟩
  rw [List.take_append_drop]
  exact h.2.2
theorem SlR.drop {w : World} {b off c : Nat} {L : List Tk} (h : SlR w (some ⟨b, off, none⟩) c L) (i : Nat) (hi : i ≤ L.length) : SlR w (some (if c = i then ⟨b, off, none⟩ else ⟨b, off + i * 5, none⟩)) (c - i) (L.drop i) := by
  refine ⟨by have := h.1; simp; omega, (fun e => by cases e), ?_⟩
  by_cases e : c = i
  · have : L.drop i = [] := List.drop_eq_nil_of_le (by have := h.1; omega)
    rw [this]
    exact TkR.nil _ _
  · rw [if_neg e]
    have k : TkR w (some ⟨b, off, none⟩) (L.take i ++ L.drop i) := by rw [List.take_append_drop]; exact h.2.2
    have := k.drop
    rw [List.length_take, Nat.min_eq_left hi] at this
    exact this
theorem resLn26 (tmps : Array Value) (w : World) (g q : Nat) {s : Int} {a : Option Addr} {n c : Nat} {t : Tk} (ht : tmps[4]?.getD undef = .pointer (some ⟨g, 0, none⟩)) (hu : tmps[5]?.getD undef = .pointer (some ⟨q, 0, none⟩)) (h : Blk w g 38 (lnA s (.slice a n c))) (k : Blk w q 30 (tkA t)) :
    (results Try.f28 tmps).run Try.prog w = .ok (.tuple #[.agg #[.int .u64 s, .slice a n c], .agg #[.int .i64 t.id, .int .i64 t.wid, .int .i64 t.sts, .int .i64 t.sin, .int .i64 t.unt]]) w := by
  obtain ⟨⟨c0, c1⟩, -⟩ := h.lane
  obtain ⟨⟨d0, d1, d2, d3, d4⟩, -⟩ := k.five
  simp [results, Try.results28, go_sem, ht, hu, c0, c1, d0, d1, d2, d3, d4]

set_option maxRecDepth 20000 in
set_option maxHeartbeats 2000000 in
theorem without_ok (s : Int) (a : Option Addr) (c i : Nat) (L : List Tk) (w : World) (h : SlR w a c L) (hl : L.length ≤ 2000) (hi : i < L.length) :
    Calls Try.prog 28 #[.agg #[.int .u64 s, .slice a L.length c], .int .i64 i] w fun e w' => (∃ v, e = .returned (.tuple #[.agg #[.int .u64 s, v], .agg #[.int .i64 (gt L i).id, .int .i64 (gt L i).wid, .int .i64 (gt L i).sts, .int .i64 (gt L i).sin, .int .i64 (gt L i).unt]]) ∧ OwnT w' w.heap.size v (L.take i ++ L.drop (i + 1))) ∧ Below w.heap.size w w' := by
  obtain ⟨w2, hw2⟩ : ∃ w2, w2 = ((w.alloc (.cells #[.int .u64 s, .slice a L.length c] 38)).alloc (.cells #[.int .u64 0, .slice none 0 0] 38)).alloc (.cells #[.int .i64 0, .int .i64 0, .int .i64 0, .int .i64 0, .int .i64 0] 30) := ⟨_, rfl⟩
  have BX := boxes3 w 38 38 30 #[.int .u64 s, .slice a L.length c] #[.int .u64 0, .slice none 0 0] #[.int .i64 0, .int .i64 0, .int .i64 0, .int .i64 0, .int .i64 0]
  rw [← hw2] at BX
  obtain ⟨B, N1, N2, N3⟩ := BX
  have B' : Hd (Below w.heap.size w w2.drew) := ⟨B.drew⟩
  have M1 : Blk w2.drew w.heap.size 38 (lnA s (.slice a L.length c)) := N1
  have M2 : Blk w2.drew (w.heap.size + 1) 38 (lnA 0 (.slice none 0 0)) := N2
  have M3 : Blk w2.drew (w.heap.size + 1 + 1) 30 (tkA tkZ) := N3
  have HS : Hd (SlR w2.drew a c L) := ⟨h.carry B'.out⟩
  have HZ : Hd (w.heap.size + 1 + 1 < w2.drew.heap.size) := ⟨N3.lt⟩
  have hc := h.1
  obtain ⟨b, off, rfl, hb, d0, d1, d2, d3, d4⟩ := h.2.2.at hi
  have HB : Hd (b < w.heap.size) := ⟨hb⟩
  have e0 := (B'.out.cell (p := ⟨b, off + i * 5, none⟩) hb).trans d0
  have e1 := (B'.out.cell (p := ⟨b, off + i * 5 + 1, none⟩) hb).trans d1
  have e2 := (B'.out.cell (p := ⟨b, off + i * 5 + 2, none⟩) hb).trans d2
  have e3 := (B'.out.cell (p := ⟨b, off + i * 5 + 3, none⟩) hb).trans d3
  have e4 := (B'.out.cell (p := ⟨b, off + i * 5 + 4, none⟩) hb).trans d4
  clear N1 N2 N3 B h d0 d1 d2 d3 d4 hb
  have LT : Hd (SlR w2.drew (some ⟨b, off, none⟩) c (L.take i) ∧ SlR w2.drew (some (if c = i + 1 then ⟨b, off, none⟩ else ⟨b, off + (i + 1) * 5, none⟩)) (c - (i + 1)) (L.drop (i + 1)) ∧ (L.take i).length = i ∧ (L.drop (i + 1)).length = L.length - (i + 1)) := ⟨HS.out.take i, HS.out.drop (i + 1) hi, by simp; omega, by simp⟩
  obtain ⟨n, hn⟩ : ∃ n, L.length = n := ⟨_, rfl⟩
  rw [hn] at hl hw2 M1 hc hi LT ⊢
  clear hn HS
  obtain ⟨x2, hx2⟩ : ∃ x2, x2 = (if c = i + 1 then (⟨b, off, none⟩ : Addr) else ⟨b, off + (i + 1) * 5, none⟩) := ⟨_, rfl⟩
  rw [← hx2] at LT
  have HX : Hd ((if c = i + 1 then some (⟨b, off, none⟩ : Addr) else some ⟨b, off + (i + 1) * 5, none⟩) = some x2) := ⟨by rw [hx2]; split <;> rfl⟩
  clear hx2
  generalize gt L i = t at *
  obtain ⟨t0, t1, t2, t3, t4⟩ := t
  simp only at *
  go_enter Try.func28, Try.ntmps28
  go_upto_region 1 with fail
  rw [← hw2]
  clear hw2
  obtain ⟨A, hA⟩ : ∃ A, A = w.heap.size := ⟨_, rfl⟩
  have HA : Hd (A = w.heap.size) := ⟨hA⟩
  rw [← hA] at M1 M2 M3 B' HZ HB ⊢
  clear hA
  refine AnyG.start (T := fun W => Kept (fun k => A + 1 ≤ k) w2.drew W) (U := fun _ => True) (j0 := 100) (by kernel_rfl) ?_
  generalize w2.drew = w3 at *
  have R : Kept (fun k => A + 1 ≤ k) w3 w3 := Kept.refl _ _
  have X0 : Hd (∀ W, Kept (fun k => A + 1 ≤ k) w3 W → W.cell? ⟨A, 0, none⟩ = some (.int .u64 s)) := ⟨fun W q => (M1.kept q (by omega)).cellv 0 rfl⟩
  have X1 : Hd (∀ W, Kept (fun k => A + 1 ≤ k) w3 W → W.cell? ⟨A, 1, none⟩ = some (.slice (some ⟨b, off, none⟩) n c)) := ⟨fun W q => (M1.kept q (by omega)).cellv 1 rfl⟩
  have XB : ∀ (W : World) (j : Nat), Kept (fun k => A + 1 ≤ k) w3 W → W.cell? ⟨b, j, none⟩ = w3.cell? ⟨b, j, none⟩ := fun W j q => World.cell?_of_block (q.block b (by have := HB.out; have := HZ.out; omega) (by have := HB.out; omega))
  have X2 : Hd (∀ W, Kept (fun k => A + 1 ≤ k) w3 W → W.cell? ⟨b, off + i * 5, none⟩ = some (.int .i64 t0) ∧ W.cell? ⟨b, off + i * 5 + 1, none⟩ = some (.int .i64 t1) ∧ W.cell? ⟨b, off + i * 5 + 2, none⟩ = some (.int .i64 t2) ∧ W.cell? ⟨b, off + i * 5 + 3, none⟩ = some (.int .i64 t3) ∧ W.cell? ⟨b, off + i * 5 + 4, none⟩ = some (.int .i64 t4)) := ⟨fun W q => ⟨(XB W _ q).trans e0, (XB W _ q).trans e1, (XB W _ q).trans e2, (XB W _ q).trans e3, (XB W _ q).trans e4⟩⟩
  clear e0 e1 e2 e3 e4 XB
  have hw : IntKind.i64.wrap ((i : Int) + 1) = (i : Int) + 1 := by rw [IntKind.wrap_i64]; omega
  refine .tq 0 6 R ?_; simp only [oqA, oqB, oqC]
  refine .tq 1 7 R ?_ (hy := fun w hSw => by have s := X0.out w hSw; go_simp; rfl); simp only [oqA, oqB, oqC]
  refine .tq 2 8 R ?_; simp only [oqA, oqB, oqC]
  refine .tq 3 9 R ?_ (hy := fun w hSw => by have s := X1.out w hSw; go_simp; rfl); simp only [oqA, oqB, oqC]
  refine .tq 4 10 R ?_; simp only [oqA, oqB, oqC]
  refine .tq (v := .slice (some ⟨b, off, none⟩) i c) 5 11 R ?_ (hy := fun w hSw => by go_simp; intro hlt; omega); simp only [oqA, oqB, oqC]
  refine .tq 6 12 R ?_; simp only [oqA, oqB, oqC]
  refine .tq 7 13 R ?_ (hy := fun w hSw => by have s := X1.out w hSw; go_simp; rfl); simp only [oqA, oqB, oqC]
  refine .tq 8 14 R ?_; simp only [oqA, oqB, oqC]
  refine .tq (v := .int .i64 ((i : Int) + 1)) 9 15 R ?_ (hy := fun w hSw => by go_simp; try rfl); simp only [oqA, oqB, oqC]
  refine .tq (v := .slice (some x2) (n - (i + 1)) (c - (i + 1))) 10 16 R ?_ (hy := fun w hSw => by go_simp; rw [if_pos (by omega), HX.out]); simp only [oqA, oqB, oqC]
  refine .tq 14 20 R ?_; simp only [oqA, oqB, oqC]
  refine .tq 15 21 R ?_ (hy := fun w hSw => by have s := X1.out w hSw; go_simp; rfl); simp only [oqA, oqB, oqC]
  refine .tq 16 22 R ?_; simp only [oqA, oqB, oqC]
  refine .tq 17 23 R ?_; simp only [oqA, oqB, oqC]
  refine .tq 18 24 R ?_ (hy := fun w hSw => by have s := X2.out w hSw; go_simp; rfl); simp only [oqA, oqB, oqC]
  have B4 : Below w3.heap.size w3 (w3.alloc (.cells #[.slice (some ⟨b, off, none⟩) i c, .slice (some x2) (n - (i + 1)) (c - (i + 1))] 36)) := alloc_below _ _
  have G4 : Blk (w3.alloc (.cells #[.slice (some ⟨b, off, none⟩) i c, .slice (some x2) (n - (i + 1)) (c - (i + 1))] 36)) w3.heap.size 36 #[.slice (some ⟨b, off, none⟩) i c, .slice (some x2) (n - (i + 1)) (c - (i + 1))] := Blk.new _ _ _
  have CC := concat_ok (some ⟨b, off, none⟩) (some x2) c (c - (i + 1)) w3.heap.size (L.take i) (L.drop (i + 1)) (w3.alloc (.cells #[.slice (some ⟨b, off, none⟩) i c, .slice (some x2) (n - (i + 1)) (c - (i + 1))] 36)) (LT.out.1.carry B4) (LT.out.2.1.carry B4) (by unfold LL2; rw [LT.out.2.2.1, LT.out.2.2.2]; exact G4) (by have := LT.out.2.2.1; omega) (by have := LT.out.2.2.2; omega)
  refine AnyG.ready (rs := [11]) (by kernel_rfl) (by simp) ?_
  refine AllG.cons rfl (fun K hK => ?_) AllG.nil
  go_simp
  refine hK.out _ _ ⟨Kept.of_below B4 _, fun _ => trivial⟩ ?_
  clear hK K G4
  generalize w3.alloc (.cells #[.slice (some ⟨b, off, none⟩) i c, .slice (some x2) (n - (i + 1)) (c - (i + 1))] 36) = w4 at *
  refine AnyG.ready (rs := [12]) (by kernel_rfl) (by simp) ?_
  refine AllG.cons rfl (fun K hK => ?_) AllG.nil
  go_simp
  refine CC.mono ?_
  rintro e w5 ⟨v5, rfl, o5, b5⟩
  have b35 : Below w3.heap.size w3 w5 := B4.trans (b5.mono B4.size)
  have T5 : Kept (fun k => A + 1 ≤ k) w3 w5 := Kept.of_below b35 _
  have P2 : Blk w5 (A + 1) 38 (lnA 0 (.slice none 0 0)) := M2.kept (Kept.of_below b35 (fun _ => False)) id
  have P3 : Blk w5 (A + 1 + 1) 30 (tkA tkZ) := M3.kept (Kept.of_below b35 (fun _ => False)) id
  refine hK.out _ _ ⟨T5, fun _ => trivial⟩ ?_
  clear hK K CC
  obtain ⟨m5, hm5⟩ : ∃ m5, m5 = (L.take i ++ L.drop (i + 1)).length := ⟨_, rfl⟩
  obtain ⟨a5, c5, e5, -⟩ := o5.read
  rw [← hm5] at e5
  subst e5
  clear hm5
  refine AnyG.ready (rs := [13]) (by kernel_rfl) (by simp) ?_
  refine AllG.cons rfl (fun K hK => ?_) AllG.nil
  go_simp
  refine hK.out _ _ ⟨T5, fun _ => trivial⟩ ?_
  clear hK K
  obtain ⟨⟨r0, r1⟩, f0, f1⟩ := P2.lane
  obtain ⟨q1, q2⟩ := lane_set P2 s (.slice a5 m5 c5)
  refine AnyG.ready (rs := [19]) (by kernel_rfl) (by simp) ?_
  refine AllG.cons rfl (fun K hK => ?_) AllG.nil
  go_simp
  have T6 : Kept (fun k => A + 1 ≤ k) w3 ((w5.setCell ⟨A + 1, 0, none⟩ (.int .u64 s)).setCell ⟨A + 1, 1, none⟩ (.slice a5 m5 c5)) := T5.trans (q2.mono (fun k _ e => by omega))
  refine hK.out _ _ ⟨T6, fun _ => trivial⟩ ?_
  clear hK K r0 r1 f0 f1
  have P3' := P3.kept q2 (by omega)
  obtain ⟨⟨y0, y1, y2, y3, y4⟩, z0, z1, z2, z3, z4⟩ := P3'.five
  obtain ⟨u1, u2⟩ := five_set P3' ⟨t0, t1, t2, t3, t4⟩
  simp only at u1 u2
  have q1' := q1.kept u2 (by omega)
  have o5' := (o5.kept q2 (fun j hj e => by have := HZ.out; have := B4.size; omega)).kept u2 (fun j hj e => by have := HZ.out; have := B4.size; omega)
  refine AnyG.ready (rs := [20]) (by kernel_rfl) (by simp) ?_
  refine AllG.cons rfl (fun K hK => ?_) AllG.nil
  go_simp
  refine hK.out _ _ ⟨T6.trans (u2.mono (fun k _ e => by omega)), fun _ => trivial⟩ ?_
  clear hK K y0 y1 y2 y3 y4 z0 z1 z2 z3 z4
  refine AnyG.done (by kernel_rfl) ?_ _
  go_wp2_with fail
  refine bodyPost_ret (resLn26 _ _ _ _ rfl rfl q1' u1) rfl ?_
  refine ⟨⟨_, rfl, ?_⟩, ?_⟩
  · rw [← HA.out]
    exact o5'.low (by have := HZ.out; have := B4.size; omega)
  rw [← HA.out]
  have b1 := B'.out.trans (b35.mono (by have := HZ.out; omega))
  exact b1.trans ((q2.below (B := A) (by have := HZ.out; have := b35.size; omega) (fun k e => by omega)).trans (u2.below (by have := q2.size; have := HZ.out; have := b35.size; omega) (fun k e => by omega)))
end Go.Proofs.Ytemmkkcfjhmomab
