/-
  The line that the program writes of an event, kind by kind. Conditions: the event's texts have at most 20000 bytes each, its numbers fit their type, its groups lie in memory, the table of powers lies in memory.
-/
import Derived.Test.YtooaojegdhamjaaDoorEvH
namespace Go.Proofs.YtooaojegdhamjaaDoor
open Go.RowKit Go.Lib

/-- An event that isn't too great, whose groups lie in memory. -/
structure EvR (w : World) (e : Ev) (a : Option Addr) (c : Nat) : Prop where
  row : RowL w a e.g
  cap : e.g.length ≤ c
  sh : Short e.g
  ln : e.g.length ≤ 9223372036854775807
  sz : Sz e.u ∧ Sz e.v ∧ Sz e.r ∧ Sz e.s ∧ Sz e.t
  nm : I64 e.k ∧ I64 e.i ∧ I64 e.n ∧ I64 e.o
theorem EvR.below {w w' : World} {e : Ev} {a : Option Addr} {c : Nat} (h : EvR w e a c) (b : Below w.heap.size w w') : EvR w' e a c := ⟨h.row.carry b, h.cap, h.sh, h.ln, h.sz, h.nm⟩
def LineP (w : World) (y : ByteArray) : Ending → World → Prop := fun q w' => q = .returned (.string y) ∧ Below w.heap.size w w'

set_option maxRecDepth 20000 in
set_option maxHeartbeats 2000000 in
theorem write_done (e : Ev) (a : Option Addr) (c : Nat) (w : World) (h : EvR w e a c) (hT : Tab w) (hk : e.k = 2) :
    Calls Tryd.prog 12 #[evV e a c] w (LineP w (lnE e)) := by
  unfold LineP evV evA
  have HE : lnE e = jn [wDone, digB e.i] := by unfold lnE; rw [if_neg (by omega), if_pos hk]
  rw [HE, hk]
  clear HE hk
  obtain ⟨w1, hw1⟩ : ∃ w1, w1 = w.alloc (.cells #[.int .i64 2, .int .i64 e.i, .int .i64 e.n, .string e.u, .slice a e.g.length c, .string e.v, .string e.r, .string e.s, .int .i64 e.o, .string e.t] 26) := ⟨_, rfl⟩
  have B1 : Below w.heap.size w w1 := by rw [hw1]; exact alloc_below _ _
  have N1 : Blk w1 w.heap.size 26 #[.int .i64 2, .int .i64 e.i, .int .i64 e.n, .string e.u, .slice a e.g.length c, .string e.v, .string e.r, .string e.s, .int .i64 e.o, .string e.t] := by rw [hw1]; exact Blk.new _ _ _
  have HB : Hd (∀ W, Below w1.heap.size w1 W → Below w.heap.size w W) := ⟨fun W b => B1.trans (b.mono B1.size)⟩
  have X : Hd (∀ W, Below w1.heap.size w1 W → Blk W w.heap.size 26 #[.int .i64 2, .int .i64 e.i, .int .i64 e.n, .string e.u, .slice a e.g.length c, .string e.v, .string e.r, .string e.s, .int .i64 e.o, .string e.t]) := ⟨fun W b => N1.kept (Kept.of_below b (fun _ => False)) id⟩
  have HD : Hd (∀ W, Below w1.heap.size w1 W → Calls Tryd.prog 22 #[.int .i64 e.i] W fun q w' => q = .returned (.string (digB e.i)) ∧ Below W.heap.size W w') := ⟨fun W b => digits_ok e.i h.nm.2.1.1 h.nm.2.1.2 W (hT.stays (HB.out W b))⟩
  have hd := digB_len e.i h.nm.2.1.2
  have HS : Hd (∀ v : World, Calls Tryd.prog 21 #[.slice (some ⟨v.heap.size, 0, none⟩) 2 2] (v.alloc (.cells #[.string ⟨#[100, 111, 110, 101]⟩, .string (digB e.i)] 9)) fun q w' => q = .returned (.string (jn [wDone, digB e.i])) ∧ Below (v.heap.size + 1) (v.alloc (.cells #[.string ⟨#[100, 111, 110, 101]⟩, .string (digB e.i)] 9)) w') := ⟨fun v => by
    have := join_sp _ 2 [wDone, digB e.i] (v.alloc (.cells #[.string ⟨#[100, 111, 110, 101]⟩, .string (digB e.i)] 9)) (row_lit v [wDone, digB e.i]) (Nat.le_refl 2) (by simp) (by simp) (by rw [jn_size, jn_one]; have : wDone.size = 4 := rfl; omega)
    simpa using this⟩
  obtain ⟨⟨r0, r1, r2, r3, r4, r5, r6, r7, r8, r9⟩, -⟩ := (X.out w1 (Below.refl _ _)).ten
  clear h hT hd B1 N1
  generalize hjj : jn [wDone, digB e.i] = y at *
  generalize digB e.i = dg at *
  clear hjj
  generalize e.g.length = m at *
  generalize e.u = u at *
  generalize e.v = v at *
  generalize e.r = r at *
  generalize e.s = s at *
  generalize e.i = i at *
  generalize e.n = n at *
  generalize e.o = o at *
  generalize e.t = t at *
  generalize hg : w.heap.size = g at *
  have HG := Hd.mk hg
  go_enter Tryd.func12, Tryd.ntmps12
  go_upto_region 1 with fail
  rw [← hw1]
  clear hw1 hg
  go_wp2_with (first
    | (go_at_call 22; refine (HD.out w1 (Below.refl _ _)).mono ?_; rintro e w2 ⟨rfl, b2⟩)
    | (go_at_call 21; refine (HS.out _).mono ?_; rintro e w3 ⟨rfl, b3⟩))
  go_ret
  refine ⟨rfl, ?_⟩
  try rw [HG.out]
  exact HB.out _ ((b2.trans ((alloc_below _ _).mono b2.size)).trans (b3.mono (by have := b2.size; omega)))

set_option maxRecDepth 20000 in
set_option maxHeartbeats 2000000 in
theorem write_drop (e : Ev) (a : Option Addr) (c : Nat) (w : World) (h : EvR w e a c) (hT : Tab w) (hk : e.k = 3) :
    Calls Tryd.prog 12 #[evV e a c] w (LineP w (lnE e)) := by
  unfold LineP evV evA
  have HE : lnE e = jn [wDrop, digB e.i] := by unfold lnE; rw [if_neg (by omega), if_neg (by omega), if_pos hk]
  rw [HE, hk]
  clear HE hk
  obtain ⟨w1, hw1⟩ : ∃ w1, w1 = w.alloc (.cells #[.int .i64 3, .int .i64 e.i, .int .i64 e.n, .string e.u, .slice a e.g.length c, .string e.v, .string e.r, .string e.s, .int .i64 e.o, .string e.t] 26) := ⟨_, rfl⟩
  have B1 : Below w.heap.size w w1 := by rw [hw1]; exact alloc_below _ _
  have N1 : Blk w1 w.heap.size 26 #[.int .i64 3, .int .i64 e.i, .int .i64 e.n, .string e.u, .slice a e.g.length c, .string e.v, .string e.r, .string e.s, .int .i64 e.o, .string e.t] := by rw [hw1]; exact Blk.new _ _ _
  have HB : Hd (∀ W, Below w1.heap.size w1 W → Below w.heap.size w W) := ⟨fun W b => B1.trans (b.mono B1.size)⟩
  have X : Hd (∀ W, Below w1.heap.size w1 W → Blk W w.heap.size 26 #[.int .i64 3, .int .i64 e.i, .int .i64 e.n, .string e.u, .slice a e.g.length c, .string e.v, .string e.r, .string e.s, .int .i64 e.o, .string e.t]) := ⟨fun W b => N1.kept (Kept.of_below b (fun _ => False)) id⟩
  have HD : Hd (∀ W, Below w1.heap.size w1 W → Calls Tryd.prog 22 #[.int .i64 e.i] W fun q w' => q = .returned (.string (digB e.i)) ∧ Below W.heap.size W w') := ⟨fun W b => digits_ok e.i h.nm.2.1.1 h.nm.2.1.2 W (hT.stays (HB.out W b))⟩
  have hd := digB_len e.i h.nm.2.1.2
  have HS : Hd (∀ v : World, Calls Tryd.prog 21 #[.slice (some ⟨v.heap.size, 0, none⟩) 2 2] (v.alloc (.cells #[.string ⟨#[100, 114, 111, 112]⟩, .string (digB e.i)] 9)) fun q w' => q = .returned (.string (jn [wDrop, digB e.i])) ∧ Below (v.heap.size + 1) (v.alloc (.cells #[.string ⟨#[100, 114, 111, 112]⟩, .string (digB e.i)] 9)) w') := ⟨fun v => by
    have := join_sp _ 2 [wDrop, digB e.i] (v.alloc (.cells #[.string ⟨#[100, 114, 111, 112]⟩, .string (digB e.i)] 9)) (row_lit v [wDrop, digB e.i]) (Nat.le_refl 2) (by simp) (by simp) (by rw [jn_size, jn_one]; have : wDrop.size = 4 := rfl; omega)
    simpa using this⟩
  obtain ⟨⟨r0, r1, r2, r3, r4, r5, r6, r7, r8, r9⟩, -⟩ := (X.out w1 (Below.refl _ _)).ten
  clear h hT hd B1 N1
  generalize hjj : jn [wDrop, digB e.i] = y at *
  generalize digB e.i = dg at *
  clear hjj
  generalize e.g.length = m at *
  generalize e.u = u at *
  generalize e.v = v at *
  generalize e.r = r at *
  generalize e.s = s at *
  generalize e.i = i at *
  generalize e.n = n at *
  generalize e.o = o at *
  generalize e.t = t at *
  generalize hg : w.heap.size = g at *
  have HG := Hd.mk hg
  go_enter Tryd.func12, Tryd.ntmps12
  go_upto_region 1 with fail
  rw [← hw1]
  clear hw1 hg
  go_wp2_with (first
    | (go_at_call 22; refine (HD.out w1 (Below.refl _ _)).mono ?_; rintro e w2 ⟨rfl, b2⟩)
    | (go_at_call 21; refine (HS.out _).mono ?_; rintro e w3 ⟨rfl, b3⟩))
  go_ret
  refine ⟨rfl, ?_⟩
  try rw [HG.out]
  exact HB.out _ ((b2.trans ((alloc_below _ _).mono b2.size)).trans (b3.mono (by have := b2.size; omega)))

set_option maxRecDepth 20000 in
set_option maxHeartbeats 2000000 in
theorem write_tick (e : Ev) (a : Option Addr) (c : Nat) (w : World) (h : EvR w e a c) (hT : Tab w) (hk : e.k = 4) :
    Calls Tryd.prog 12 #[evV e a c] w (LineP w (lnE e)) := by
  unfold LineP evV evA
  have HE : lnE e = jn [wTick, digB e.n] := by unfold lnE; rw [if_neg (by omega), if_neg (by omega), if_neg (by omega), if_pos hk]
  rw [HE, hk]
  clear HE hk
  obtain ⟨w1, hw1⟩ : ∃ w1, w1 = w.alloc (.cells #[.int .i64 4, .int .i64 e.i, .int .i64 e.n, .string e.u, .slice a e.g.length c, .string e.v, .string e.r, .string e.s, .int .i64 e.o, .string e.t] 26) := ⟨_, rfl⟩
  have B1 : Below w.heap.size w w1 := by rw [hw1]; exact alloc_below _ _
  have N1 : Blk w1 w.heap.size 26 #[.int .i64 4, .int .i64 e.i, .int .i64 e.n, .string e.u, .slice a e.g.length c, .string e.v, .string e.r, .string e.s, .int .i64 e.o, .string e.t] := by rw [hw1]; exact Blk.new _ _ _
  have HB : Hd (∀ W, Below w1.heap.size w1 W → Below w.heap.size w W) := ⟨fun W b => B1.trans (b.mono B1.size)⟩
  have X : Hd (∀ W, Below w1.heap.size w1 W → Blk W w.heap.size 26 #[.int .i64 4, .int .i64 e.i, .int .i64 e.n, .string e.u, .slice a e.g.length c, .string e.v, .string e.r, .string e.s, .int .i64 e.o, .string e.t]) := ⟨fun W b => N1.kept (Kept.of_below b (fun _ => False)) id⟩
  have HD : Hd (∀ W, Below w1.heap.size w1 W → Calls Tryd.prog 22 #[.int .i64 e.n] W fun q w' => q = .returned (.string (digB e.n)) ∧ Below W.heap.size W w') := ⟨fun W b => digits_ok e.n h.nm.2.2.1.1 h.nm.2.2.1.2 W (hT.stays (HB.out W b))⟩
  have hd := digB_len e.n h.nm.2.2.1.2
  have HS : Hd (∀ v : World, Calls Tryd.prog 21 #[.slice (some ⟨v.heap.size, 0, none⟩) 2 2] (v.alloc (.cells #[.string ⟨#[116, 105, 99, 107]⟩, .string (digB e.n)] 9)) fun q w' => q = .returned (.string (jn [wTick, digB e.n])) ∧ Below (v.heap.size + 1) (v.alloc (.cells #[.string ⟨#[116, 105, 99, 107]⟩, .string (digB e.n)] 9)) w') := ⟨fun v => by
    have := join_sp _ 2 [wTick, digB e.n] (v.alloc (.cells #[.string ⟨#[116, 105, 99, 107]⟩, .string (digB e.n)] 9)) (row_lit v [wTick, digB e.n]) (Nat.le_refl 2) (by simp) (by simp) (by rw [jn_size, jn_one]; have : wTick.size = 4 := rfl; omega)
    simpa using this⟩
  obtain ⟨⟨r0, r1, r2, r3, r4, r5, r6, r7, r8, r9⟩, -⟩ := (X.out w1 (Below.refl _ _)).ten
  clear h hT hd B1 N1
  generalize hjj : jn [wTick, digB e.n] = y at *
  generalize digB e.n = dg at *
  clear hjj
  generalize e.g.length = m at *
  generalize e.u = u at *
  generalize e.v = v at *
  generalize e.r = r at *
  generalize e.s = s at *
  generalize e.i = i at *
  generalize e.n = n at *
  generalize e.o = o at *
  generalize e.t = t at *
  generalize hg : w.heap.size = g at *
  have HG := Hd.mk hg
  go_enter Tryd.func12, Tryd.ntmps12
  go_upto_region 1 with fail
  rw [← hw1]
  clear hw1 hg
  go_wp2_with (first
    | (go_at_call 22; refine (HD.out w1 (Below.refl _ _)).mono ?_; rintro e w2 ⟨rfl, b2⟩)
    | (go_at_call 21; refine (HS.out _).mono ?_; rintro e w3 ⟨rfl, b3⟩))
  go_ret
  refine ⟨rfl, ?_⟩
  try rw [HG.out]
  exact HB.out _ ((b2.trans ((alloc_below _ _).mono b2.size)).trans (b3.mono (by have := b2.size; omega)))

set_option maxRecDepth 20000 in
set_option maxHeartbeats 2000000 in
theorem write_load (e : Ev) (a : Option Addr) (c : Nat) (w : World) (h : EvR w e a c) (hk : e.k = 5) :
    Calls Tryd.prog 12 #[evV e a c] w (LineP w (lnE e)) := by
  unfold LineP evV evA
  have HE : lnE e = loadL e.t := by unfold lnE; rw [if_neg (by omega), if_neg (by omega), if_neg (by omega), if_neg (by omega), if_pos hk]
  rw [HE, hk]
  clear HE hk
  obtain ⟨w1, hw1⟩ : ∃ w1, w1 = w.alloc (.cells #[.int .i64 5, .int .i64 e.i, .int .i64 e.n, .string e.u, .slice a e.g.length c, .string e.v, .string e.r, .string e.s, .int .i64 e.o, .string e.t] 26) := ⟨_, rfl⟩
  have B1 : Below w.heap.size w w1 := by rw [hw1]; exact alloc_below _ _
  have N1 : Blk w1 w.heap.size 26 #[.int .i64 5, .int .i64 e.i, .int .i64 e.n, .string e.u, .slice a e.g.length c, .string e.v, .string e.r, .string e.s, .int .i64 e.o, .string e.t] := by rw [hw1]; exact Blk.new _ _ _
  have HB : Hd (∀ W, Below w1.heap.size w1 W → Below w.heap.size w W) := ⟨fun W b => B1.trans (b.mono B1.size)⟩
  have X : Hd (∀ W, Below w1.heap.size w1 W → Blk W w.heap.size 26 #[.int .i64 5, .int .i64 e.i, .int .i64 e.n, .string e.u, .slice a e.g.length c, .string e.v, .string e.r, .string e.s, .int .i64 e.o, .string e.t]) := ⟨fun W b => N1.kept (Kept.of_below b (fun _ => False)) id⟩
  have HL : Hd (∀ W, Calls Tryd.prog 24 #[.string e.t] W fun q w' => q = .returned (.string (loadL e.t)) ∧ Below W.heap.size W w') := ⟨fun W => load_ok e.t W h.sz.2.2.2.2⟩
  obtain ⟨⟨r0, r1, r2, r3, r4, r5, r6, r7, r8, r9⟩, -⟩ := (X.out w1 (Below.refl _ _)).ten
  clear h B1 N1
  generalize hjj : loadL e.t = y at *
  clear hjj
  generalize e.g.length = m at *
  generalize e.u = u at *
  generalize e.v = v at *
  generalize e.r = r at *
  generalize e.s = s at *
  generalize e.i = i at *
  generalize e.n = n at *
  generalize e.o = o at *
  generalize e.t = t at *
  generalize hg : w.heap.size = g at *
  have HG := Hd.mk hg
  go_enter Tryd.func12, Tryd.ntmps12
  go_upto_region 1 with fail
  rw [← hw1]
  clear hw1 hg
  go_wp2_with (go_at_call 24; refine (HL.out w1).mono ?_; rintro e w2 ⟨rfl, b2⟩)
  go_ret
  refine ⟨rfl, ?_⟩
  try rw [HG.out]
  exact HB.out _ b2

set_option maxRecDepth 20000 in
set_option maxHeartbeats 2000000 in
theorem write_new (e : Ev) (a : Option Addr) (c : Nat) (w : World) (h : EvR w e a c) (hT : Tab w) (hk : e.k = 1) :
    Calls Tryd.prog 12 #[evV e a c] w (LineP w (lnE e)) := by
  unfold LineP evV evA
  have HE : lnE e = jn [wNew, digB e.i, rqE e] := by unfold lnE; rw [if_pos hk]
  rw [HE, hk]
  clear HE hk
  obtain ⟨w1, hw1⟩ : ∃ w1, w1 = w.alloc (.cells #[.int .i64 1, .int .i64 e.i, .int .i64 e.n, .string e.u, .slice a e.g.length c, .string e.v, .string e.r, .string e.s, .int .i64 e.o, .string e.t] 26) := ⟨_, rfl⟩
  have B1 : Below w.heap.size w w1 := by rw [hw1]; exact alloc_below _ _
  have N1 : Blk w1 w.heap.size 26 #[.int .i64 1, .int .i64 e.i, .int .i64 e.n, .string e.u, .slice a e.g.length c, .string e.v, .string e.r, .string e.s, .int .i64 e.o, .string e.t] := by rw [hw1]; exact Blk.new _ _ _
  have HB : Hd (∀ W, Below w1.heap.size w1 W → Below w.heap.size w W) := ⟨fun W b => B1.trans (b.mono B1.size)⟩
  have X : Hd (∀ W, Below w1.heap.size w1 W → Blk W w.heap.size 26 #[.int .i64 1, .int .i64 e.i, .int .i64 e.n, .string e.u, .slice a e.g.length c, .string e.v, .string e.r, .string e.s, .int .i64 e.o, .string e.t]) := ⟨fun W b => N1.kept (Kept.of_below b (fun _ => False)) id⟩
  have HD : Hd (∀ W, Below w1.heap.size w1 W → Calls Tryd.prog 22 #[.int .i64 e.i] W fun q w' => q = .returned (.string (digB e.i)) ∧ Below W.heap.size W w') := ⟨fun W b => digits_ok e.i h.nm.2.1.1 h.nm.2.1.2 W (hT.stays (HB.out W b))⟩
  have hd := digB_len e.i h.nm.2.1.2
  have hq : (rqE e).size ≤ 200000 := by
    unfold rqE
    rw [jn_size, jn_size, jn_size, jn_size, jn_size, jn_one]
    have := joinB_len e.g
    have := digB_len e.o h.nm.2.2.2.2
    have := spW_len h.sz.2.2.2.1
    have h1 := h.sz.1
    have h2 := h.sz.2.1
    have h3 := h.sz.2.2.1
    unfold Sz at h1 h2 h3
    omega
  have HQ : Hd (∀ W, Below w1.heap.size w1 W → Calls Tryd.prog 23 #[.agg #[.string e.u, .slice a e.g.length c, .string e.v, .string e.r, .string e.s, .int .i64 e.o]] W fun q w' => q = .returned (.string (rqE e)) ∧ Below W.heap.size W w') := ⟨fun W b => req_ok e a c W (h.row.carry (HB.out W b)) h.cap h.sh h.ln h.sz.1 h.sz.2.1 h.sz.2.2.1 h.sz.2.2.2.1 h.nm.2.2.2 (hT.stays (HB.out W b))⟩
  have HS : Hd (∀ v : World, Calls Tryd.prog 21 #[.slice (some ⟨v.heap.size, 0, none⟩) 3 3] (v.alloc (.cells #[.string ⟨#[110, 101, 119]⟩, .string (digB e.i), .string (rqE e)] 9)) fun q w' => q = .returned (.string (jn [wNew, digB e.i, rqE e])) ∧ Below (v.heap.size + 1) (v.alloc (.cells #[.string ⟨#[110, 101, 119]⟩, .string (digB e.i), .string (rqE e)] 9)) w') := ⟨fun v => by
    have := join_sp _ 3 [wNew, digB e.i, rqE e] (v.alloc (.cells #[.string ⟨#[110, 101, 119]⟩, .string (digB e.i), .string (rqE e)] 9)) (row_lit v [wNew, digB e.i, rqE e]) (Nat.le_refl 3) (by simp) (by simp) (by rw [jn_size, jn_size, jn_one]; have : wNew.size = 3 := rfl; omega)
    simpa using this⟩
  have r0 := (X.out w1 (Below.refl _ _)).ten.1.1
  have Y : Hd (∀ W, Below w1.heap.size w1 W → (W.cell? ⟨w.heap.size, 1, none⟩ = some (.int .i64 e.i) ∧ W.cell? ⟨w.heap.size, 3, none⟩ = some (.string e.u) ∧ W.cell? ⟨w.heap.size, 4, none⟩ = some (.slice a e.g.length c) ∧ W.cell? ⟨w.heap.size, 5, none⟩ = some (.string e.v) ∧ W.cell? ⟨w.heap.size, 6, none⟩ = some (.string e.r) ∧ W.cell? ⟨w.heap.size, 7, none⟩ = some (.string e.s) ∧ W.cell? ⟨w.heap.size, 8, none⟩ = some (.int .i64 e.o))) := ⟨fun W b => by
    have N2 := X.out W b
    exact ⟨N2.cellv 1 rfl, N2.cellv 3 rfl, N2.cellv 4 rfl, N2.cellv 5 rfl, N2.cellv 6 rfl, N2.cellv 7 rfl, N2.cellv 8 rfl⟩⟩
  clear h hT hd hq B1 N1 X
  generalize hjj : jn [wNew, digB e.i, rqE e] = y at *
  generalize digB e.i = dg at *
  generalize rqE e = rq at *
  clear hjj
  generalize e.g.length = m at *
  generalize e.u = u at *
  generalize e.v = v at *
  generalize e.r = r at *
  generalize e.s = s at *
  generalize e.i = i at *
  generalize e.n = n at *
  generalize e.o = o at *
  generalize e.t = t at *
  generalize hg : w.heap.size = g at *
  have HG := Hd.mk hg
  go_enter Tryd.func12, Tryd.ntmps12
  go_upto_region 3 with fail
  rw [← hw1]
  clear hw1 hg r0
  have B3 : Below w1.heap.size w1 w1.drew := (Below.refl _ _).drew
  refine AnyG.start (T := fun W => Below w1.heap.size w1 W) (U := fun _ => True) (j0 := 100) (by kernel_rfl) ?_
  generalize w1.drew = w3 at *
  refine .tq 0 7 B3 ?_; simp only [tkA, tkB, tkC]
  refine .tq 1 8 B3 ?_ (hy := fun w hSw => by obtain ⟨s0, s1, s2, s3, s4, s5, s6⟩ := Y.out w hSw; go_simp; rfl); simp only [tkA, tkB, tkC]
  refine .tq 3 10 B3 ?_; simp only [tkA, tkB, tkC]
  refine .tq 4 11 B3 ?_ (hy := fun w hSw => by obtain ⟨s0, s1, s2, s3, s4, s5, s6⟩ := Y.out w hSw; go_simp; rfl); simp only [tkA, tkB, tkC]
  refine AnyG.ready (rs := [2]) (by kernel_rfl) (by simp) ?_
  refine AllG.cons rfl (fun K hK => ?_) AllG.nil
  go_simp
  refine (HD.out w3 B3).mono ?_
  rintro e w4 ⟨rfl, b4⟩
  have B4 : Below w1.heap.size w1 w4 := B3.trans (b4.mono B3.size)
  refine hK.out _ _ ⟨B4, fun _ => trivial⟩ ?_
  clear hK K b4 B3
  refine AnyG.ready (rs := [5]) (by kernel_rfl) (by simp) ?_
  refine AllG.cons rfl (fun K hK => ?_) AllG.nil
  go_simp
  refine (HQ.out w4 B4).mono ?_
  rintro e w5 ⟨rfl, b5⟩
  have B5 : Below w1.heap.size w1 w5 := B4.trans (b5.mono B4.size)
  refine hK.out _ _ ⟨B5, fun _ => trivial⟩ ?_
  clear hK K b5 B4
  refine AnyG.ready (rs := [6]) (by kernel_rfl) (by simp) ?_
  refine AllG.cons rfl (fun K hK => ?_) AllG.nil
  go_simp
  have B6 : Below w1.heap.size w1 (w5.alloc (.cells #[.string ⟨#[110, 101, 119]⟩, .string dg, .string rq] 9)) := B5.trans ((alloc_below _ _).mono B5.size)
  refine hK.out _ _ ⟨B6, fun _ => trivial⟩ ?_
  clear hK K
  refine AnyG.ready (rs := [7]) (by kernel_rfl) (by simp) ?_
  refine AllG.cons rfl (fun K hK => ?_) AllG.nil
  go_simp
  refine (HS.out w5).mono ?_
  rintro e w7 ⟨rfl, b7⟩
  have B7 : Below w1.heap.size w1 w7 := B6.trans (b7.mono (Nat.le_trans B5.size (Nat.le_succ _)))
  refine hK.out _ _ ⟨B7, fun _ => trivial⟩ ?_
  clear hK K b7 B6 B5
  refine .tq 8 2 B7 ?_ ; simp only [tkA, tkB, tkC]
  refine AnyG.done (by kernel_rfl) ?_ _
  have HF : Hd (Below g w w7) := ⟨HB.out w7 B7⟩
  go_wp2_with fail
  go_ret
  exact ⟨rfl, by first | exact HF.out | (rw [HG.out]; exact HF.out)⟩
theorem write_none (e : Ev) (a : Option Addr) (c : Nat) (w : World) (h1 : e.k ≠ 1) (h2 : e.k ≠ 2) (h3 : e.k ≠ 3) (h4 : e.k ≠ 4) (h5 : e.k ≠ 5) :
    Calls Tryd.prog 12 #[evV e a c] w (LineP w (lnE e)) := by
  unfold LineP evV evA
  have HE : lnE e = ⟨#[]⟩ := by unfold lnE; rw [if_neg h1, if_neg h2, if_neg h3, if_neg h4, if_neg h5]; rfl
  rw [HE]
  clear HE
  have d1 : (e.k == 1) = false := by simpa using h1
  have d2 : (e.k == 2) = false := by simpa using h2
  have d3 : (e.k == 3) = false := by simpa using h3
  have d4 : (e.k == 4) = false := by simpa using h4
  have d5 : (e.k == 5) = false := by simpa using h5
  clear h1 h2 h3 h4 h5
  generalize e.k = k at *
  generalize e.g.length = m at *
  generalize e.u = u at *
  generalize e.v = v at *
  generalize e.r = r at *
  generalize e.s = s at *
  generalize e.i = i at *
  generalize e.n = n at *
  generalize e.o = o at *
  generalize e.t = t at *
  have B := Hd.mk (alloc_below w (.cells #[.int .i64 k, .int .i64 i, .int .i64 n, .string u, .slice a m c, .string v, .string r, .string s, .int .i64 o, .string t] 26))
  have r0 := (Blk.new w 26 #[.int .i64 k, .int .i64 i, .int .i64 n, .string u, .slice a m c, .string v, .string r, .string s, .int .i64 o, .string t]).cellv 0 rfl
  go_enter Tryd.func12, Tryd.ntmps12
  go_wp2_with fail
  go_ret
  exact ⟨rfl, B.out⟩
theorem write_any (e : Ev) (a : Option Addr) (c : Nat) (w : World) (h : EvR w e a c) (hT : Tab w) : Calls Tryd.prog 12 #[evV e a c] w (LineP w (lnE e)) := by
  by_cases h1 : e.k = 1
  · exact write_new e a c w h hT h1
  by_cases h2 : e.k = 2
  · exact write_done e a c w h hT h2
  by_cases h3 : e.k = 3
  · exact write_drop e a c w h hT h3
  by_cases h4 : e.k = 4
  · exact write_tick e a c w h hT h4
  by_cases h5 : e.k = 5
  · exact write_load e a c w h h5
  exact write_none e a c w h1 h2 h3 h4 h5
end Go.Proofs.YtooaojegdhamjaaDoor
