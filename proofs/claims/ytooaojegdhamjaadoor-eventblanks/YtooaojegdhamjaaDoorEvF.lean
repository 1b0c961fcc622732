/-
  What a reader tells of the words behind a line's first one. Condition: the words have at most 2^31 bytes.
-/
import Derived.Test.YtooaojegdhamjaaDoorEvE
namespace Go.Proofs.YtooaojegdhamjaaDoor
open Go.RowKit Go.Lib

/-- An event's ten cells; the event. -/
def evA (e : Ev) (a : Option Addr) (c : Nat) : Array Value := #[.int .i64 e.k, .int .i64 e.i, .int .i64 e.n, .string e.u, .slice a e.g.length c, .string e.v, .string e.r, .string e.s, .int .i64 e.o, .string e.t]
def evV (e : Ev) (a : Option Addr) (c : Nat) : Value := .agg (evA e a c)

theorem ten_set {w : World} {a : Nat} {c0 c1 c2 c3 c4 c5 c6 c7 c8 c9 v0 v1 v2 v3 v4 v5 v6 v7 v8 v9 : Value} (h : Blk w a 26 #[c0, c1, c2, c3, c4, c5, c6, c7, c8, c9]) :
    Blk ((((((((((w.setCell ⟨a, 0, none⟩ v0).setCell ⟨a, 1, none⟩ v1).setCell ⟨a, 2, none⟩ v2).setCell ⟨a, 3, none⟩ v3).setCell ⟨a, 4, none⟩ v4).setCell ⟨a, 5, none⟩ v5).setCell ⟨a, 6, none⟩ v6).setCell ⟨a, 7, none⟩ v7).setCell ⟨a, 8, none⟩ v8).setCell ⟨a, 9, none⟩ v9) a 26 #[v0, v1, v2, v3, v4, v5, v6, v7, v8, v9] ∧ Kept (At a) w ((((((((((w.setCell ⟨a, 0, none⟩ v0).setCell ⟨a, 1, none⟩ v1).setCell ⟨a, 2, none⟩ v2).setCell ⟨a, 3, none⟩ v3).setCell ⟨a, 4, none⟩ v4).setCell ⟨a, 5, none⟩ v5).setCell ⟨a, 6, none⟩ v6).setCell ⟨a, 7, none⟩ v7).setCell ⟨a, 8, none⟩ v8).setCell ⟨a, 9, none⟩ v9) := by
  refine ⟨?_, ((((((((((Kept.refl (At a) w).setCell _ _ (.inl rfl)).setCell _ _ (.inl rfl)).setCell _ _ (.inl rfl)).setCell _ _ (.inl rfl)).setCell _ _ (.inl rfl)).setCell _ _ (.inl rfl)).setCell _ _ (.inl rfl)).setCell _ _ (.inl rfl)).setCell _ _ (.inl rfl)).setCell _ _ (.inl rfl)⟩
  have := (((((((((h.set 0 v0).set 1 v1).set 2 v2).set 3 v3).set 4 v4).set 5 v5).set 6 v6).set 7 v7).set 8 v8).set 9 v9
  simpa using this
theorem Blk.ten {w : World} {a : Nat} {c0 c1 c2 c3 c4 c5 c6 c7 c8 c9 : Value} (h : Blk w a 26 #[c0, c1, c2, c3, c4, c5, c6, c7, c8, c9]) :
    (w.cell? ⟨a, 0, none⟩ = some c0 ∧ w.cell? ⟨a, 1, none⟩ = some c1 ∧ w.cell? ⟨a, 2, none⟩ = some c2 ∧ w.cell? ⟨a, 3, none⟩ = some c3 ∧ w.cell? ⟨a, 4, none⟩ = some c4 ∧ w.cell? ⟨a, 5, none⟩ = some c5 ∧ w.cell? ⟨a, 6, none⟩ = some c6 ∧ w.cell? ⟨a, 7, none⟩ = some c7 ∧ w.cell? ⟨a, 8, none⟩ = some c8 ∧ w.cell? ⟨a, 9, none⟩ = some c9) ∧ (w.frozen? ⟨a, 0, none⟩ = false ∧ w.frozen? ⟨a, 1, none⟩ = false ∧ w.frozen? ⟨a, 2, none⟩ = false ∧ w.frozen? ⟨a, 3, none⟩ = false ∧ w.frozen? ⟨a, 4, none⟩ = false ∧ w.frozen? ⟨a, 5, none⟩ = false ∧ w.frozen? ⟨a, 6, none⟩ = false ∧ w.frozen? ⟨a, 7, none⟩ = false ∧ w.frozen? ⟨a, 8, none⟩ = false ∧ w.frozen? ⟨a, 9, none⟩ = false) :=
  ⟨⟨h.cellv 0 rfl, h.cellv 1 rfl, h.cellv 2 rfl, h.cellv 3 rfl, h.cellv 4 rfl, h.cellv 5 rfl, h.cellv 6 rfl, h.cellv 7 rfl, h.cellv 8 rfl, h.cellv 9 rfl⟩, h.frozen 0, h.frozen 1, h.frozen 2, h.frozen 3, h.frozen 4, h.frozen 5, h.frozen 6, h.frozen 7, h.frozen 8, h.frozen 9⟩
theorem res18 (tmps : Array Value) (w : World) (g : Nat) {c0 c1 c2 c3 c4 c5 c6 c7 c8 c9 : Value} (ht : tmps[4]?.getD undef = .pointer (some ⟨g, 0, none⟩)) (h : Blk w g 26 #[c0, c1, c2, c3, c4, c5, c6, c7, c8, c9]) :
    (results Tryd.f18 tmps).run Tryd.prog w = .ok (.agg #[c0, c1, c2, c3, c4, c5, c6, c7, c8, c9]) w := by
  obtain ⟨⟨r0, r1, r2, r3, r4, r5, r6, r7, r8, r9⟩, -⟩ := h.ten
  simp [results, Tryd.results18, go_sem, ht, r0, r1, r2, r3, r4, r5, r6, r7, r8, r9]
theorem newX_rq (L : List ByteArray) : newX L = rqX (L.drop 1) (mst (mst 0 (decide (L.length = 7)) 2) (numIn (gt L 0) 0 999999999) 8) := by
  unfold newX rqX
  simp only [gt_drop]
/-- What a call of the reader's leaves: the event, its groups, the reader. -/
def EvP (w : World) (p : Nat) (f : ByteArray) (L : List ByteArray) : Ending → World → Prop := fun q w' => ∃ a c, q = .returned (evV (evE f L) a c) ∧ (RowL w' a (evE f L).g ∧ (evE f L).g.length ≤ c ∧ ∀ b off, a = some ⟨b, off, none⟩ → w.heap.size ≤ b) ∧ ∃ M, RdS w' p M (evX f L) ∧ Kept (At p) w w'
theorem f_no {f : ByteArray} {l : List UInt8} (h : f ≠ mk l) : (f.toList == l) = false := by
  have := str_ne h
  rw [ByteArray.toList_eq (mk l), mk_list] at this
  exact this

theorem done_rd (w : World) (p : Nat) (L : List ByteArray) (f : ByteArray) (h : RdS w p L 0)  (hf : f = wDone) :
    Calls Tryd.prog 18 #[.pointer (some ⟨p, 0, none⟩), .string f] w (EvP w p f L) := by
  obtain ⟨w1, hw1⟩ : ∃ w1, w1 = w.alloc (.cells #[.int .i64 0, .int .i64 0, .int .i64 0, .string ⟨#[]⟩, .slice none 0 0, .string ⟨#[]⟩, .string ⟨#[]⟩, .string ⟨#[]⟩, .int .i64 0, .string ⟨#[]⟩] 26) := ⟨_, rfl⟩
  have b1 : Below w.heap.size w w1 := by rw [hw1]; exact alloc_below _ _
  have n1 : Blk w1 w.heap.size 26 #[.int .i64 0, .int .i64 0, .int .i64 0, .string ⟨#[]⟩, .slice none 0 0, .string ⟨#[]⟩, .string ⟨#[]⟩, .string ⟨#[]⟩, .int .i64 0, .string ⟨#[]⟩] := by rw [hw1]; exact Blk.new _ _ _
  have hp : p < w.heap.size := h.lt
  have R1 := Hd.mk (h.below b1)
  have B1 := Hd.mk b1
  have N1 := Hd.mk n1
  have HP := Hd.mk hp
  clear b1 n1 h
  have E1 := Hd.mk (ev_done L)
  subst hf
  unfold EvP
  rw [E1.out.1, E1.out.2]
  show Calls Tryd.prog 18 #[.pointer (some ⟨p, 0, none⟩), .string ⟨#[100, 111, 110, 101]⟩] w _
  generalize hg : w.heap.size = g at *
  go_enter Tryd.func18, Tryd.ntmps18
  go_wp2_with fail
  rw [← hw1]
  go_at_call 34
  refine (exactly_rd w1 p L 0 1 R1.out ).mono ?_
  rintro q v0 ⟨rfl, h, kk⟩
  have Q0 := Hd.mk h
  have KK0 := Hd.mk kk
  clear h kk
  have Z0 := Hd.mk (N1.out.kept KK0.out (fun h : g = p => by have := HP.out; omega))
  go_wp2_with fail
  skip
  go_at_call 35
  refine (id_rd v0 p L _ Q0.out ).mono ?_
  rintro q v1 ⟨rfl, h, kk⟩
  have Q1 := Hd.mk h
  have KK1 := Hd.mk kk
  clear h kk
  have Z1 := Hd.mk (Z0.out.kept KK1.out (fun h : g = p => by have := HP.out; omega))
  obtain ⟨⟨r0, r1, r2, r3, r4, r5, r6, r7, r8, r9⟩, f0, f1, f2, f3, f4, f5, f6, f7, f8, f9⟩ := Z1.out.ten
  obtain ⟨z1, z2⟩ := ten_set (v0 := .int .i64 2) (v1 := .int .i64 (numOf (gt L 0) 0 999999999)) (v2 := .int .i64 0) (v3 := .string ⟨#[]⟩) (v4 := .slice none 0 0) (v5 := .string ⟨#[]⟩) (v6 := .string ⟨#[]⟩) (v7 := .string ⟨#[]⟩) (v8 := .int .i64 0) (v9 := .string ⟨#[]⟩) Z1.out
  have Y1 := Hd.mk z1
  have Y2 := Hd.mk z2
  clear z1 z2 hw1
  go_wp2_with fail
  refine bodyPost_ret (res18 _ _ g rfl Y1.out) rfl ?_
  refine ⟨none, 0, rfl, ⟨fun h => absurd h (Nat.lt_irrefl 0), Nat.le_refl 0, fun _ _ h => by cases h⟩, _, Q1.out.kept Y2.out (fun j (h : j = g) => by have := HP.out; omega), ?_⟩
  have k := ((KK0.out.mono (T := fun j => j = p ∨ j = g) fun j _ h => .inl h).trans (KK1.out.mono fun j _ h => .inl h)).trans (Y2.out.mono fun j _ h => .inr h)
  exact ((Kept.of_below (hg ▸ B1.out) _).trans k).mono fun j hj h => by rw [hg] at hj; show j = p; omega
theorem drop_rd (w : World) (p : Nat) (L : List ByteArray) (f : ByteArray) (h : RdS w p L 0)  (hf : f = wDrop) :
    Calls Tryd.prog 18 #[.pointer (some ⟨p, 0, none⟩), .string f] w (EvP w p f L) := by
  obtain ⟨w1, hw1⟩ : ∃ w1, w1 = w.alloc (.cells #[.int .i64 0, .int .i64 0, .int .i64 0, .string ⟨#[]⟩, .slice none 0 0, .string ⟨#[]⟩, .string ⟨#[]⟩, .string ⟨#[]⟩, .int .i64 0, .string ⟨#[]⟩] 26) := ⟨_, rfl⟩
  have b1 : Below w.heap.size w w1 := by rw [hw1]; exact alloc_below _ _
  have n1 : Blk w1 w.heap.size 26 #[.int .i64 0, .int .i64 0, .int .i64 0, .string ⟨#[]⟩, .slice none 0 0, .string ⟨#[]⟩, .string ⟨#[]⟩, .string ⟨#[]⟩, .int .i64 0, .string ⟨#[]⟩] := by rw [hw1]; exact Blk.new _ _ _
  have hp : p < w.heap.size := h.lt
  have R1 := Hd.mk (h.below b1)
  have B1 := Hd.mk b1
  have N1 := Hd.mk n1
  have HP := Hd.mk hp
  clear b1 n1 h
  have E1 := Hd.mk (ev_drop L)
  subst hf
  unfold EvP
  rw [E1.out.1, E1.out.2]
  show Calls Tryd.prog 18 #[.pointer (some ⟨p, 0, none⟩), .string ⟨#[100, 114, 111, 112]⟩] w _
  generalize hg : w.heap.size = g at *
  go_enter Tryd.func18, Tryd.ntmps18
  go_wp2_with fail
  rw [← hw1]
  go_at_call 34
  refine (exactly_rd w1 p L 0 1 R1.out ).mono ?_
  rintro q v0 ⟨rfl, h, kk⟩
  have Q0 := Hd.mk h
  have KK0 := Hd.mk kk
  clear h kk
  have Z0 := Hd.mk (N1.out.kept KK0.out (fun h : g = p => by have := HP.out; omega))
  go_wp2_with fail
  skip
  go_at_call 35
  refine (id_rd v0 p L _ Q0.out ).mono ?_
  rintro q v1 ⟨rfl, h, kk⟩
  have Q1 := Hd.mk h
  have KK1 := Hd.mk kk
  clear h kk
  have Z1 := Hd.mk (Z0.out.kept KK1.out (fun h : g = p => by have := HP.out; omega))
  obtain ⟨⟨r0, r1, r2, r3, r4, r5, r6, r7, r8, r9⟩, f0, f1, f2, f3, f4, f5, f6, f7, f8, f9⟩ := Z1.out.ten
  obtain ⟨z1, z2⟩ := ten_set (v0 := .int .i64 3) (v1 := .int .i64 (numOf (gt L 0) 0 999999999)) (v2 := .int .i64 0) (v3 := .string ⟨#[]⟩) (v4 := .slice none 0 0) (v5 := .string ⟨#[]⟩) (v6 := .string ⟨#[]⟩) (v7 := .string ⟨#[]⟩) (v8 := .int .i64 0) (v9 := .string ⟨#[]⟩) Z1.out
  have Y1 := Hd.mk z1
  have Y2 := Hd.mk z2
  clear z1 z2 hw1
  go_wp2_with fail
  refine bodyPost_ret (res18 _ _ g rfl Y1.out) rfl ?_
  refine ⟨none, 0, rfl, ⟨fun h => absurd h (Nat.lt_irrefl 0), Nat.le_refl 0, fun _ _ h => by cases h⟩, _, Q1.out.kept Y2.out (fun j (h : j = g) => by have := HP.out; omega), ?_⟩
  have k := ((KK0.out.mono (T := fun j => j = p ∨ j = g) fun j _ h => .inl h).trans (KK1.out.mono fun j _ h => .inl h)).trans (Y2.out.mono fun j _ h => .inr h)
  exact ((Kept.of_below (hg ▸ B1.out) _).trans k).mono fun j hj h => by rw [hg] at hj; show j = p; omega
theorem tick_rd (w : World) (p : Nat) (L : List ByteArray) (f : ByteArray) (h : RdS w p L 0)  (hf : f = wTick) :
    Calls Tryd.prog 18 #[.pointer (some ⟨p, 0, none⟩), .string f] w (EvP w p f L) := by
  obtain ⟨w1, hw1⟩ : ∃ w1, w1 = w.alloc (.cells #[.int .i64 0, .int .i64 0, .int .i64 0, .string ⟨#[]⟩, .slice none 0 0, .string ⟨#[]⟩, .string ⟨#[]⟩, .string ⟨#[]⟩, .int .i64 0, .string ⟨#[]⟩] 26) := ⟨_, rfl⟩
  have b1 : Below w.heap.size w w1 := by rw [hw1]; exact alloc_below _ _
  have n1 : Blk w1 w.heap.size 26 #[.int .i64 0, .int .i64 0, .int .i64 0, .string ⟨#[]⟩, .slice none 0 0, .string ⟨#[]⟩, .string ⟨#[]⟩, .string ⟨#[]⟩, .int .i64 0, .string ⟨#[]⟩] := by rw [hw1]; exact Blk.new _ _ _
  have hp : p < w.heap.size := h.lt
  have R1 := Hd.mk (h.below b1)
  have B1 := Hd.mk b1
  have N1 := Hd.mk n1
  have HP := Hd.mk hp
  clear b1 n1 h
  have E1 := Hd.mk (ev_tick L)
  subst hf
  unfold EvP
  rw [E1.out.1, E1.out.2]
  show Calls Tryd.prog 18 #[.pointer (some ⟨p, 0, none⟩), .string ⟨#[116, 105, 99, 107]⟩] w _
  generalize hg : w.heap.size = g at *
  go_enter Tryd.func18, Tryd.ntmps18
  go_wp2_with fail
  rw [← hw1]
  go_at_call 34
  refine (exactly_rd w1 p L 0 1 R1.out ).mono ?_
  rintro q v0 ⟨rfl, h, kk⟩
  have Q0 := Hd.mk h
  have KK0 := Hd.mk kk
  clear h kk
  have Z0 := Hd.mk (N1.out.kept KK0.out (fun h : g = p => by have := HP.out; omega))
  go_wp2_with fail
  skip
  go_at_call 37
  refine (number_rd v0 p L _ 1 1000 Q0.out ).mono ?_
  rintro q v1 ⟨rfl, h, kk⟩
  have Q1 := Hd.mk h
  have KK1 := Hd.mk kk
  clear h kk
  have Z1 := Hd.mk (Z0.out.kept KK1.out (fun h : g = p => by have := HP.out; omega))
  obtain ⟨⟨r0, r1, r2, r3, r4, r5, r6, r7, r8, r9⟩, f0, f1, f2, f3, f4, f5, f6, f7, f8, f9⟩ := Z1.out.ten
  obtain ⟨z1, z2⟩ := ten_set (v0 := .int .i64 4) (v1 := .int .i64 0) (v2 := .int .i64 (numOf (gt L 0) 1 1000)) (v3 := .string ⟨#[]⟩) (v4 := .slice none 0 0) (v5 := .string ⟨#[]⟩) (v6 := .string ⟨#[]⟩) (v7 := .string ⟨#[]⟩) (v8 := .int .i64 0) (v9 := .string ⟨#[]⟩) Z1.out
  have Y1 := Hd.mk z1
  have Y2 := Hd.mk z2
  clear z1 z2 hw1
  go_wp2_with fail
  refine bodyPost_ret (res18 _ _ g rfl Y1.out) rfl ?_
  refine ⟨none, 0, rfl, ⟨fun h => absurd h (Nat.lt_irrefl 0), Nat.le_refl 0, fun _ _ h => by cases h⟩, _, Q1.out.kept Y2.out (fun j (h : j = g) => by have := HP.out; omega), ?_⟩
  have k := ((KK0.out.mono (T := fun j => j = p ∨ j = g) fun j _ h => .inl h).trans (KK1.out.mono fun j _ h => .inl h)).trans (Y2.out.mono fun j _ h => .inr h)
  exact ((Kept.of_below (hg ▸ B1.out) _).trans k).mono fun j hj h => by rw [hg] at hj; show j = p; omega
theorem none_rd (w : World) (p : Nat) (L : List ByteArray) (f : ByteArray) (h : RdS w p L 0) (h0 : f ≠ wNew) (h1 : f ≠ wDone) (h2 : f ≠ wDrop) (h3 : f ≠ wTick) :
    Calls Tryd.prog 18 #[.pointer (some ⟨p, 0, none⟩), .string f] w (EvP w p f L) := by
  obtain ⟨w1, hw1⟩ : ∃ w1, w1 = w.alloc (.cells #[.int .i64 0, .int .i64 0, .int .i64 0, .string ⟨#[]⟩, .slice none 0 0, .string ⟨#[]⟩, .string ⟨#[]⟩, .string ⟨#[]⟩, .int .i64 0, .string ⟨#[]⟩] 26) := ⟨_, rfl⟩
  have b1 : Below w.heap.size w w1 := by rw [hw1]; exact alloc_below _ _
  have n1 : Blk w1 w.heap.size 26 #[.int .i64 0, .int .i64 0, .int .i64 0, .string ⟨#[]⟩, .slice none 0 0, .string ⟨#[]⟩, .string ⟨#[]⟩, .string ⟨#[]⟩, .int .i64 0, .string ⟨#[]⟩] := by rw [hw1]; exact Blk.new _ _ _
  have hp : p < w.heap.size := h.lt
  have R1 := Hd.mk (h.below b1)
  have B1 := Hd.mk b1
  have N1 := Hd.mk n1
  have HP := Hd.mk hp
  clear b1 n1 h
  have E1 : Hd (evE f L = ev0 ∧ evX f L = 2) := ⟨by unfold evE evX; rw [if_neg h0, if_neg h1, if_neg h2, if_neg h3, if_neg h0, if_neg h1, if_neg h2, if_neg h3]; exact ⟨rfl, rfl⟩⟩
  have d0 := f_no h0
  have d1 := f_no h1
  have d2 := f_no h2
  have d3 := f_no h3
  unfold EvP
  rw [E1.out.1, E1.out.2]
  clear h0 h1 h2 h3
  generalize hg : w.heap.size = g at *
  go_enter Tryd.func18, Tryd.ntmps18
  go_wp2_with fail
  rw [← hw1]
  go_at_call 38
  refine (R1.out.must 2 false ).mono ?_
  rintro q v0 ⟨rfl, h, kk⟩
  have Q0 := Hd.mk h
  have KK0 := Hd.mk kk
  clear h kk
  have Z0 := Hd.mk (N1.out.kept KK0.out (fun h : g = p => by have := HP.out; omega))
  obtain ⟨⟨r0, r1, r2, r3, r4, r5, r6, r7, r8, r9⟩, f0, f1, f2, f3, f4, f5, f6, f7, f8, f9⟩ := Z0.out.ten
  obtain ⟨z1, z2⟩ := ten_set (v0 := .int .i64 0) (v1 := .int .i64 0) (v2 := .int .i64 0) (v3 := .string ⟨#[]⟩) (v4 := .slice none 0 0) (v5 := .string ⟨#[]⟩) (v6 := .string ⟨#[]⟩) (v7 := .string ⟨#[]⟩) (v8 := .int .i64 0) (v9 := .string ⟨#[]⟩) Z0.out
  have Y1 := Hd.mk z1
  have Y2 := Hd.mk z2
  clear z1 z2 hw1
  go_wp2_with fail
  refine bodyPost_ret (res18 _ _ g rfl Y1.out) rfl ?_
  refine ⟨none, 0, rfl, ⟨fun h => absurd h (Nat.lt_irrefl 0), Nat.le_refl 0, fun _ _ h => by cases h⟩, _, Q0.out.kept Y2.out (fun j (h : j = g) => by have := HP.out; omega), ?_⟩
  have k := (KK0.out.mono (T := fun j => j = p ∨ j = g) fun j _ h => .inl h).trans (Y2.out.mono fun j _ h => .inr h)
  exact ((Kept.of_below (hg ▸ B1.out) _).trans k).mono fun j hj h => by rw [hg] at hj; show j = p; omega
theorem new_rd (w : World) (p : Nat) (L : List ByteArray) (f : ByteArray) (h : RdS w p L 0) (hf : f = wNew) :
    Calls Tryd.prog 18 #[.pointer (some ⟨p, 0, none⟩), .string f] w (EvP w p f L) := by
  obtain ⟨w1, hw1⟩ : ∃ w1, w1 = w.alloc (.cells #[.int .i64 0, .int .i64 0, .int .i64 0, .string ⟨#[]⟩, .slice none 0 0, .string ⟨#[]⟩, .string ⟨#[]⟩, .string ⟨#[]⟩, .int .i64 0, .string ⟨#[]⟩] 26) := ⟨_, rfl⟩
  have b1 : Below w.heap.size w w1 := by rw [hw1]; exact alloc_below _ _
  have n1 : Blk w1 w.heap.size 26 #[.int .i64 0, .int .i64 0, .int .i64 0, .string ⟨#[]⟩, .slice none 0 0, .string ⟨#[]⟩, .string ⟨#[]⟩, .string ⟨#[]⟩, .int .i64 0, .string ⟨#[]⟩] := by rw [hw1]; exact Blk.new _ _ _
  have hp : p < w.heap.size := h.lt
  have R1 := Hd.mk (h.below b1)
  have B1 := Hd.mk b1
  have N1 := Hd.mk n1
  have HP := Hd.mk hp
  clear b1 n1 h
  have E1 : Hd (evE f L = newE L ∧ evX f L = newX L) := ⟨by unfold evE evX; rw [if_pos hf, if_pos hf]; exact ⟨rfl, rfl⟩⟩
  unfold EvP
  rw [E1.out.1, E1.out.2, newX_rq]
  clear E1
  subst hf
  show Calls Tryd.prog 18 #[.pointer (some ⟨p, 0, none⟩), .string ⟨#[110, 101, 119]⟩] w _
  generalize hg : w.heap.size = g at *
  go_enter Tryd.func18, Tryd.ntmps18
  go_wp2_with fail
  rw [← hw1]
  go_at_call 34
  refine (exactly_rd w1 p L 0 7 R1.out ).mono ?_
  rintro q v0 ⟨rfl, h, kk⟩
  have Q0 := Hd.mk h
  have KK0 := Hd.mk kk
  clear h kk
  have Z0 := Hd.mk (N1.out.kept KK0.out (fun h : g = p => by have := HP.out; omega))
  go_wp2_with fail
  skip
  go_at_call 35
  refine (id_rd v0 p L _ Q0.out ).mono ?_
  rintro q v1 ⟨rfl, h, kk⟩
  have Q1 := Hd.mk h
  have KK1 := Hd.mk kk
  clear h kk
  have Z1 := Hd.mk (Z0.out.kept KK1.out (fun h : g = p => by have := HP.out; omega))
  have C2 := request_rd v1 p (L.drop 1) _ Q1.out
  simp only [gt_drop] at C2
  go_wp2_with fail
  skip
  go_at_call 36
  refine (C2 ).mono ?_
  rintro q v2 ⟨a, c, rfl, ⟨hr, hc, hf⟩, h, kk⟩
  have Q2 := Hd.mk h
  have KK2 := Hd.mk kk
  clear h kk
  have Z2 := Hd.mk (Z1.out.kept KK2.out (fun h : g = p => by have := HP.out; omega))
  have HRw := Hd.mk hr
  have HC := Hd.mk hc
  have HF : Hd (∀ b off, a = some ⟨b, off, none⟩ → g + 1 ≤ b) := ⟨fun b off e => by have := hf b off e; have := Z1.out.lt; omega⟩
  clear hr hc hf
  generalize hm : (listOf (gt L 2)).length = m at *
  have HM := Hd.mk hm
  clear hm C2
  obtain ⟨⟨r0, r1, r2, r3, r4, r5, r6, r7, r8, r9⟩, f0, f1, f2, f3, f4, f5, f6, f7, f8, f9⟩ := Z2.out.ten
  obtain ⟨z1, z2⟩ := ten_set (v0 := .int .i64 1) (v1 := .int .i64 (numOf (gt L 0) 0 999999999)) (v2 := .int .i64 0) (v3 := .string (gt L 1)) (v4 := .slice a m c) (v5 := .string (gt L 3)) (v6 := .string (gt L 4)) (v7 := .string (spO (gt L 5))) (v8 := .int .i64 (numOf (gt L 6) 0 1048576)) (v9 := .string ⟨#[]⟩) Z2.out
  have Y1 := Hd.mk z1
  have Y2 := Hd.mk z2
  clear z1 z2 hw1
  go_wp2_with fail
  refine bodyPost_ret (res18 _ _ g rfl Y1.out) rfl ?_
  refine ⟨a, c, ?_, ⟨HRw.out.kept Y2.out fun b off e (h : b = g) => by have := HF.out b off e; omega, by show (listOf (gt L 2)).length ≤ c; rw [HM.out]; exact HC.out, fun b off e => Nat.le_trans (Nat.le_succ g) (HF.out b off e)⟩, _, Q2.out.kept Y2.out (fun j (h : j = g) => by have := HP.out; omega), ?_⟩
  · unfold evV evA newE
    rw [HM.out]
    rfl
  have k := (((KK0.out.mono (T := fun j => j = p ∨ j = g) fun j _ h => .inl h).trans (KK1.out.mono fun j _ h => .inl h)).trans (KK2.out.mono fun j _ h => .inl h)).trans (Y2.out.mono fun j _ h => .inr h)
  exact ((Kept.of_below (hg ▸ B1.out) _).trans k).mono fun j hj h => by rw [hg] at hj; show j = p; omega
theorem event_rd (w : World) (p : Nat) (L : List ByteArray) (f : ByteArray) (h : RdS w p L 0) :
    Calls Tryd.prog 18 #[.pointer (some ⟨p, 0, none⟩), .string f] w (EvP w p f L) := by
  by_cases h0 : f = wNew
  · exact new_rd w p L f h h0
  by_cases h1 : f = wDone
  · exact done_rd w p L f h h1
  by_cases h2 : f = wDrop
  · exact drop_rd w p L f h h2
  by_cases h3 : f = wTick
  · exact tick_rd w p L f h h3
  exact none_rd w p L f h h0 h1 h2 h3
end Go.Proofs.YtooaojegdhamjaaDoor
