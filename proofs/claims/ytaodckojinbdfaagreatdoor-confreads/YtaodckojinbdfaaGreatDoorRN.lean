/-
  'Line' of the reference. Condition: the configuration and the words lie in memory.
  'Parse' of the reference. Condition: the text is not too long for the statement.
  Any text is the document's configuration, or has the document's first fault, at its line: the walk of 'ConfReads'. Condition: the text's length is a number of its type.
-/
import Derived.Test.YtaodckojinbdfaaGreatDoorRfC
import Derived.Test.YtaodckojinbdfaaGreatDoorRfL
import Derived.Test.YtaodckojinbdfaaGreatDoorRR
import Derived.Test.YtaodckojinbdfaaGreatDoorLine
import Derived.Test.YtaodckojinbdfaaGreatDoorPR
import Derived.Test.YtaodckojinbdfaaGreatDoorAwake
namespace Go.Proofs.YtaodckojinbdfaaGreatDoor
open Go.RowKit Go.Lib

theorem CfV.off {B : Nat} {S : Nat → Prop} {w w' : World} {v : Value} {C : Cf} (h : CfV B w v C) (k : Kept S w w') (o9 : Off 9 S w) (o39 : Off 39 S w) (o42 : Off 42 S w) (o73 : Off 73 S w) : CfV B w' v C := by
  obtain ⟨vL, vS, V, rfl, hL, hS⟩ := h
  exact ⟨vL, vS, V, rfl, hL.off k o39, hS.off k o9 o42 o73⟩
theorem nums_no (a : Option Addr) (c n : Nat) (q : Int) (vb : Value) (w : World) (h : ((n : Int) != q) = true) :
    Calls Tryz.prog 35 #[.slice a n c, .int .i64 q, vb] w fun e w' => w' = w ∧ e = .returned (.tuple #[.slice none 0 0, .int .i64 2]) := by
  go_enter Tryz.func35, Tryz.ntmps35
  go_wp2_with fail
  go_ret2
  exact ⟨rfl, rfl⟩
theorem Bx.cfv {B : Nat} {w wr : World} {C : Cf} {vL vS : Value} {V : List Value} (h : Bx B w wr C vL vS V) : CfV B wr (.agg #[.int .i64 C.total, .int .i64 C.period, .int .i64 C.perSeat, .int .i64 C.most, vL, vS]) C := ⟨vL, vS, V, rfl, h.l, h.s⟩
/-- A number of the box is written. -/
theorem Bx.num {B : Nat} {w wr : World} {C C' : Cf} {vL vS : Value} {V : List Value} (h : Bx B w wr C vL vS V) (i : Nat) (v : Value) (hl : C'.levels = C.levels) (hs : C'.schemas = C.schemas)
    (e : (#[.int .i64 C.total, .int .i64 C.period, .int .i64 C.perSeat, .int .i64 C.most, vL, vS] : Array Value).setIfInBounds i v = #[.int .i64 C'.total, .int .i64 C'.period, .int .i64 C'.perSeat, .int .i64 C'.most, vL, vS]) : Bx B w (wr.setCell ⟨w.heap.size, i, none⟩ v) C' vL vS V := by
  have k : Kept (fun k => k = w.heap.size) wr (wr.setCell ⟨w.heap.size, i, none⟩ v) := (Kept.refl (fun k => k = w.heap.size) wr).setCell ⟨w.heap.size, i, none⟩ v (.inl rfl)
  have o : ∀ t, 26 ≠ t → Off t (fun k => k = w.heap.size) wr := fun t ht => off_blk h.c ht
  refine ⟨h.bel.trans (k.below h.bel.size (fun j hj => by omega)), ?_, h.r.kept k (by omega), ?_, ?_⟩
  · rw [← e]; exact h.c.set i v
  · rw [hl]; exact h.l.off k (o 39 (by decide))
  · rw [hs]; exact h.s.off k (o 9 (by decide)) (o 42 (by decide)) (o 73 (by decide))
theorem BRow.new1 (w : World) (l h : Int) : BRow (w.alloc (.cells #[.int .i64 l, .int .i64 h] 69)) w.heap.size 1 (fun _ => l) (fun _ => h) := by
  have n := Blk.new w 69 #[.int .i64 l, .int .i64 h]
  refine ⟨n.lt, fun k hk => ?_⟩
  obtain rfl : k = 0 := by omega
  exact ⟨n.cellv 0 rfl, n.cellv 1 rfl⟩
def hi2 (h h' : Int) : Nat → Int
  | 0 => h
  | _ => h'
theorem BRow.new2 (w : World) (l h h' : Int) : BRow (w.alloc (.cells #[.int .i64 l, .int .i64 h, .int .i64 l, .int .i64 h'] 69)) w.heap.size 2 (fun _ => l) (hi2 h h') := by
  have n := Blk.new w 69 #[.int .i64 l, .int .i64 h, .int .i64 l, .int .i64 h']
  refine ⟨n.lt, fun k hk => ?_⟩
  match k, hk with
  | 0, _ => exact ⟨n.cellv 0 rfl, n.cellv 1 rfl⟩
  | 1, _ => exact ⟨n.cellv 2 rfl, n.cellv 3 rfl⟩
theorem OwnN.at {B : Nat} {w : World} {v : Value} {l : List Int} (h : OwnN B w v l) : ∃ a c, v = .slice a l.length c ∧ (0 < l.length → ∃ g, a = some ⟨g, 0, none⟩ ∧ g < w.heap.size ∧ ∀ k (hk : k < l.length), w.cell? ⟨g, k, none⟩ = some (.int .i64 l[k])) := by
  obtain ⟨a, c, rfl⟩ := own_form h
  refine ⟨a, c, rfl, fun hl => ?_⟩
  rcases h.2 with ⟨e, e2⟩ | ⟨g, cap, cur, e, hB, hb, hc, hm, hs, ht⟩
  · omega
  · injection e with e1 e2 e3
    refine ⟨g, e1, ?_, fun k hk => ?_⟩
    · rcases Nat.lt_or_ge g w.heap.size with h1 | h1
      · exact h1
      · rw [Array.getElem?_eq_none h1] at hb; cases hb
    · have h1 : (cur.toList.take (l.length * 1))[k]? = some (.int .i64 l[k]) := by rw [ht]; simp [hk]
      rw [List.getElem?_take] at h1
      split at h1
      · simp [World.cell?, hb]; simpa using h1
      · cases h1

set_option maxRecDepth 20000 in
set_option maxHeartbeats 4000000 in
theorem rline_total {B : Nat} (b off c : Nat) (x : ByteArray) (ws : List ByteArray) (w : World) (C : Cf) (vL vS : Value) (V : List Value) (hL : LvOwn B w vL C.levels) (hS : ScOwn B w vS C.schemas V) (hb : b < w.heap.size) (h0 : w.cell? ⟨b, off, none⟩ = some (.string x))
    (t0 : (x.toList == [116, 111, 116, 97, 108]) = true)
    (hr : RowL w (some ⟨b, off, none⟩) ws) (hp : 0 < ws.length) (hsz : ∀ k, (gt ws k).size ≤ 65536) :
    Calls Tryz.prog 16 #[.agg #[.int .i64 C.total, .int .i64 C.period, .int .i64 C.perSeat, .int .i64 C.most, vL, vS], .slice (some ⟨b, off, none⟩) ws.length c] w fun e w' => ∃ v, e = .returned (.tuple #[v, .int .i64 (totalE C ws.tail)]) ∧ Below w.heap.size w w' ∧ Six v ∧ (totalE C ws.tail = 0 → CfV B w' v ⟨numOf (gt ws 1) 1 4096, C.period, C.perSeat, C.most, C.levels, C.schemas⟩) := by
  have X0 : Hd _ := ⟨Bx.start hL hS⟩
  obtain ⟨aL, cL, rfl⟩ := own_form hL
  obtain ⟨aS, cS, rfl⟩ := own_form hS.own
  clear hL hS
  generalize hE : totalE C ws.tail = E
  have HE : Hd (totalE C ws.tail = E) := ⟨hE⟩
  clear hE
  have HR : Hd (RowL w (some ⟨b, off, none⟩) ws ∧ ∀ k, (gt ws k).size ≤ 65536) := ⟨hr, hsz⟩
  clear hr hsz
  by_cases hl : ws.length = 2
  · have HL : Hd (ws.length = 2) := ⟨hl⟩
    rw [hl]
    clear hl
    go_enter Tryz.func16, Tryz.ntmps16
    go_upto_region 1 with fail
    generalize hw2 : World.alloc _ _ = w2
    have X2 : Hd (Bx B w w2 C (.slice aL C.levels.length cL) (.slice aS C.schemas.length cS) V) := ⟨by rw [← hw2]; exact X0.out⟩
    clear hw2 X0
    have c0 := (X2.out.bel.cell (p := ⟨b, off, none⟩) hb).trans h0
    obtain ⟨y0, y1, y2, y3, y4, y5⟩ := X2.out.reads
    go_wp2_with fail
    have NG := nums_go (some ⟨b, off, none⟩) c ws w2.heap.size 1 1 (fun _ => 1) (fun _ => 4096) (w2.alloc (.cells #[.int .i64 1, .int .i64 4096] 69)) ((HR.out.1.carry X2.out.bel).carry ((Below.refl _ _).alloc (Nat.le_refl _) _)) HR.out.2 (BRow.new1 w2 1 4096) HL.out (by decide)
    rw [HL.out] at NG
    have X3 : Hd (Bx B w (w2.alloc (.cells #[.int .i64 1, .int .i64 4096] 69)) C (.slice aL C.levels.length cL) (.slice aS C.schemas.length cS) V) := ⟨X2.out.grown ((Below.refl _ _).alloc (Nat.le_refl _) _)⟩
    go_at_call 35
    refine NG.mono ?_
    clear NG X2 c0 y0 y1 y2 y3 y4 y5
    rintro e w4 ⟨b4, ⟨⟨j, hj, hn⟩, rfl⟩ | ⟨hok, v4, rfl, own4⟩⟩
    · have X4 : Hd (Bx B w w4 C (.slice aL C.levels.length cL) (.slice aS C.schemas.length cS) V) := ⟨X3.out.grown b4⟩
      obtain ⟨y0, y1, y2, y3, y4, y5⟩ := X4.out.reads
      obtain ⟨r0, r1, r2, r3, r4, r5, f0, f1, f2, f3, f4, f5⟩ := X4.out.room
      obtain rfl : j = 0 := by omega
      have HN : Hd (numIn (gt ws 1) 1 4096 = false) := ⟨hn⟩
      clear hn X3 b4 hj
      go_wp2_with fail
      have EE : E = 8 := by rw [← HE.out]; unfold totalE; rw [gt_tail, HN.out, List.length_tail, HL.out]; simp [mu, ifE]
      subst EE
      obtain ⟨q1, q2, q3⟩ := X4.out.sets (.int .i64 C.total) (.int .i64 C.period) (.int .i64 C.perSeat) (.int .i64 C.most) (.slice aL C.levels.length cL) (.slice aS C.schemas.length cS)
      refine bodyPost_ret (resC16 _ _ _ _ _ _ _ _ _ _ rfl rfl q1) rfl ?_
      exact ⟨_, rfl, q2, ⟨_, _, _, _, _, _, _, _, _, _, rfl⟩, fun h => absurd h (by decide)⟩
    · have X4 : Hd (Bx B w w4 C (.slice aL C.levels.length cL) (.slice aS C.schemas.length cS) V) := ⟨X3.out.grown b4⟩
      obtain ⟨y0, y1, y2, y3, y4, y5⟩ := X4.out.reads
      obtain ⟨r0, r1, r2, r3, r4, r5, f0, f1, f2, f3, f4, f5⟩ := X4.out.room
      have HN : Hd (numIn (gt ws 1) 1 4096 = true) := ⟨hok 0 (by decide)⟩
      obtain ⟨a4, k4, rfl, h4⟩ := own4.at
      obtain ⟨g4, rfl, -, h4⟩ := h4 (by rw [numsTo_len]; decide)
      have d0 : w4.cell? ⟨g4, 0, none⟩ = some (.int .i64 (numOf (gt ws 1) 1 4096)) := h4 0 (by rw [numsTo_len]; decide)
      rw [numsTo_len]
      have fz := X4.out.c.frozen 0
      clear h4 own4 hok X3 b4
      generalize hnv : numOf (gt ws 1) 1 4096 = nv at *
      have HV : Hd (numOf (gt ws 1) 1 4096 = nv) := ⟨hnv⟩
      clear hnv
      have HZ : Hd (E = ifE (C.total == 0) 5) := ⟨by rw [← HE.out]; unfold totalE; rw [gt_tail, HN.out, List.length_tail, HL.out]; simp [mu, ifE]⟩
      by_cases hz : C.total = 0
      · have ez : (C.total != 0) = false := by simp [hz]
        have HZ0 : Hd (E = 0) := ⟨by rw [HZ.out, hz]; rfl⟩
        clear hz HZ
        go_wp2_with fail
        have X5 := X4.out.num (C' := ⟨nv, C.period, C.perSeat, C.most, C.levels, C.schemas⟩) 0 (.int .i64 nv) rfl rfl rfl
        obtain ⟨q1, q2, q3⟩ := X5.sets (.int .i64 nv) (.int .i64 C.period) (.int .i64 C.perSeat) (.int .i64 C.most) (.slice aL C.levels.length cL) (.slice aS C.schemas.length cS)
        refine bodyPost_ret (resC16 _ _ _ _ _ _ _ _ _ _ rfl rfl q1) rfl ?_
        have E0 := HZ0.out
        subst E0
        have cf := X5.cfv.off q3 (off_blk X5.r (by decide)) (off_blk X5.r (by decide)) (off_blk X5.r (by decide)) (off_blk X5.r (by decide))
        exact ⟨_, rfl, q2, cf.six, fun _ => by rw [HV.out]; exact cf⟩
      · have ez : (C.total != 0) = true := by simp [hz]
        have HZ0 : Hd (E = 5) := ⟨by rw [HZ.out]; simp [ifE, hz]⟩
        clear hz HZ
        go_wp2_with fail
        have E0 := HZ0.out
        subst E0
        obtain ⟨q1, q2, q3⟩ := X4.out.sets (.int .i64 C.total) (.int .i64 C.period) (.int .i64 C.perSeat) (.int .i64 C.most) (.slice aL C.levels.length cL) (.slice aS C.schemas.length cS)
        refine bodyPost_ret (resC16 _ _ _ _ _ _ _ _ _ _ rfl rfl q1) rfl ?_
        exact ⟨_, rfl, q2, ⟨_, _, _, _, _, _, _, _, _, _, rfl⟩, fun h => absurd h (by decide)⟩
  · have hl2 : ((ws.length : Int) != 2) = true := by simp; omega
    have HL2 : Hd (¬ ws.length = 2) := ⟨hl⟩
    clear hl
    have HZ : Hd (E = 2) := ⟨by
      rw [← HE.out]
      have e : ((ws.tail.length : Int) == 1) = false := by rw [List.length_tail]; have := HL2.out; simp; omega
      unfold totalE
      rw [e, ifE_no, mu_keep (e := 2) (by decide), mu_keep (e := 2) (by decide)]⟩
    generalize hm : ws.length = m at *
    clear hm
    go_enter Tryz.func16, Tryz.ntmps16
    go_upto_region 1 with fail
    generalize hw2 : World.alloc _ _ = w2
    have X2 : Hd (Bx B w w2 C (.slice aL C.levels.length cL) (.slice aS C.schemas.length cS) V) := ⟨by rw [← hw2]; exact X0.out⟩
    clear hw2 X0
    have c0 := (X2.out.bel.cell (p := ⟨b, off, none⟩) hb).trans h0
    obtain ⟨y0, y1, y2, y3, y4, y5⟩ := X2.out.reads
    go_wp2_with fail
    have X3 : Hd (Bx B w (w2.alloc (.cells #[.int .i64 1, .int .i64 4096] 69)) C (.slice aL C.levels.length cL) (.slice aS C.schemas.length cS) V) := ⟨X2.out.grown ((Below.refl _ _).alloc (Nat.le_refl _) _)⟩
    go_at_call 35
    refine (nums_no _ _ _ _ _ _ hl2).mono ?_
    clear X2 c0 y0 y1 y2 y3 y4 y5
    rintro e w4 ⟨hw4, rfl⟩
    rw [← hw4] at X3
    clear hw4
    obtain ⟨y0, y1, y2, y3, y4, y5⟩ := X3.out.reads
    obtain ⟨r0, r1, r2, r3, r4, r5, f0, f1, f2, f3, f4, f5⟩ := X3.out.room
    go_wp2_with fail
    have E0 := HZ.out
    subst E0
    obtain ⟨q1, q2, q3⟩ := X3.out.sets (.int .i64 C.total) (.int .i64 C.period) (.int .i64 C.perSeat) (.int .i64 C.most) (.slice aL C.levels.length cL) (.slice aS C.schemas.length cS)
    refine bodyPost_ret (resC16 _ _ _ _ _ _ _ _ _ _ rfl rfl q1) rfl ?_
    exact ⟨_, rfl, q2, ⟨_, _, _, _, _, _, _, _, _, _, rfl⟩, fun h => absurd h (by decide)⟩
set_option maxRecDepth 20000 in
set_option maxHeartbeats 4000000 in
theorem rline_period {B : Nat} (b off c : Nat) (x : ByteArray) (ws : List ByteArray) (w : World) (C : Cf) (vL vS : Value) (V : List Value) (hL : LvOwn B w vL C.levels) (hS : ScOwn B w vS C.schemas V) (hb : b < w.heap.size) (h0 : w.cell? ⟨b, off, none⟩ = some (.string x))
    (t0 : (x.toList == [116, 111, 116, 97, 108]) = false)
    (t1 : (x.toList == [112, 101, 114, 105, 111, 100]) = true)
    (hr : RowL w (some ⟨b, off, none⟩) ws) (hp : 0 < ws.length) (hsz : ∀ k, (gt ws k).size ≤ 65536) :
    Calls Tryz.prog 16 #[.agg #[.int .i64 C.total, .int .i64 C.period, .int .i64 C.perSeat, .int .i64 C.most, vL, vS], .slice (some ⟨b, off, none⟩) ws.length c] w fun e w' => ∃ v, e = .returned (.tuple #[v, .int .i64 (periodE C ws.tail)]) ∧ Below w.heap.size w w' ∧ Six v ∧ (periodE C ws.tail = 0 → CfV B w' v ⟨C.total, numOf (gt ws 1) 1 1000, C.perSeat, C.most, C.levels, C.schemas⟩) := by
  have X0 : Hd _ := ⟨Bx.start hL hS⟩
  obtain ⟨aL, cL, rfl⟩ := own_form hL
  obtain ⟨aS, cS, rfl⟩ := own_form hS.own
  clear hL hS
  generalize hE : periodE C ws.tail = E
  have HE : Hd (periodE C ws.tail = E) := ⟨hE⟩
  clear hE
  have HR : Hd (RowL w (some ⟨b, off, none⟩) ws ∧ ∀ k, (gt ws k).size ≤ 65536) := ⟨hr, hsz⟩
  clear hr hsz
  by_cases hl : ws.length = 2
  · have HL : Hd (ws.length = 2) := ⟨hl⟩
    rw [hl]
    clear hl
    go_enter Tryz.func16, Tryz.ntmps16
    go_upto_region 1 with fail
    generalize hw2 : World.alloc _ _ = w2
    have X2 : Hd (Bx B w w2 C (.slice aL C.levels.length cL) (.slice aS C.schemas.length cS) V) := ⟨by rw [← hw2]; exact X0.out⟩
    clear hw2 X0
    have c0 := (X2.out.bel.cell (p := ⟨b, off, none⟩) hb).trans h0
    obtain ⟨y0, y1, y2, y3, y4, y5⟩ := X2.out.reads
    go_wp2_with fail
    have NG := nums_go (some ⟨b, off, none⟩) c ws w2.heap.size 1 1 (fun _ => 1) (fun _ => 1000) (w2.alloc (.cells #[.int .i64 1, .int .i64 1000] 69)) ((HR.out.1.carry X2.out.bel).carry ((Below.refl _ _).alloc (Nat.le_refl _) _)) HR.out.2 (BRow.new1 w2 1 1000) HL.out (by decide)
    rw [HL.out] at NG
    have X3 : Hd (Bx B w (w2.alloc (.cells #[.int .i64 1, .int .i64 1000] 69)) C (.slice aL C.levels.length cL) (.slice aS C.schemas.length cS) V) := ⟨X2.out.grown ((Below.refl _ _).alloc (Nat.le_refl _) _)⟩
    go_at_call 35
    refine NG.mono ?_
    clear NG X2 c0 y0 y1 y2 y3 y4 y5
    rintro e w4 ⟨b4, ⟨⟨j, hj, hn⟩, rfl⟩ | ⟨hok, v4, rfl, own4⟩⟩
    · have X4 : Hd (Bx B w w4 C (.slice aL C.levels.length cL) (.slice aS C.schemas.length cS) V) := ⟨X3.out.grown b4⟩
      obtain ⟨y0, y1, y2, y3, y4, y5⟩ := X4.out.reads
      obtain ⟨r0, r1, r2, r3, r4, r5, f0, f1, f2, f3, f4, f5⟩ := X4.out.room
      obtain rfl : j = 0 := by omega
      have HN : Hd (numIn (gt ws 1) 1 1000 = false) := ⟨hn⟩
      clear hn X3 b4 hj
      go_wp2_with fail
      have EE : E = 8 := by rw [← HE.out]; unfold periodE; rw [gt_tail, HN.out, List.length_tail, HL.out]; simp [mu, ifE]
      subst EE
      obtain ⟨q1, q2, q3⟩ := X4.out.sets (.int .i64 C.total) (.int .i64 C.period) (.int .i64 C.perSeat) (.int .i64 C.most) (.slice aL C.levels.length cL) (.slice aS C.schemas.length cS)
      refine bodyPost_ret (resC16 _ _ _ _ _ _ _ _ _ _ rfl rfl q1) rfl ?_
      exact ⟨_, rfl, q2, ⟨_, _, _, _, _, _, _, _, _, _, rfl⟩, fun h => absurd h (by decide)⟩
    · have X4 : Hd (Bx B w w4 C (.slice aL C.levels.length cL) (.slice aS C.schemas.length cS) V) := ⟨X3.out.grown b4⟩
      obtain ⟨y0, y1, y2, y3, y4, y5⟩ := X4.out.reads
      obtain ⟨r0, r1, r2, r3, r4, r5, f0, f1, f2, f3, f4, f5⟩ := X4.out.room
      have HN : Hd (numIn (gt ws 1) 1 1000 = true) := ⟨hok 0 (by decide)⟩
      obtain ⟨a4, k4, rfl, h4⟩ := own4.at
      obtain ⟨g4, rfl, -, h4⟩ := h4 (by rw [numsTo_len]; decide)
      have d0 : w4.cell? ⟨g4, 0, none⟩ = some (.int .i64 (numOf (gt ws 1) 1 1000)) := h4 0 (by rw [numsTo_len]; decide)
      rw [numsTo_len]
      have fz := X4.out.c.frozen 1
      clear h4 own4 hok X3 b4
      generalize hnv : numOf (gt ws 1) 1 1000 = nv at *
      have HV : Hd (numOf (gt ws 1) 1 1000 = nv) := ⟨hnv⟩
      clear hnv
      have HZ : Hd (E = ifE (C.period == 0) 5) := ⟨by rw [← HE.out]; unfold periodE; rw [gt_tail, HN.out, List.length_tail, HL.out]; simp [mu, ifE]⟩
      by_cases hz : C.period = 0
      · have ez : (C.period != 0) = false := by simp [hz]
        have HZ0 : Hd (E = 0) := ⟨by rw [HZ.out, hz]; rfl⟩
        clear hz HZ
        go_wp2_with fail
        have X5 := X4.out.num (C' := ⟨C.total, nv, C.perSeat, C.most, C.levels, C.schemas⟩) 1 (.int .i64 nv) rfl rfl rfl
        obtain ⟨q1, q2, q3⟩ := X5.sets (.int .i64 C.total) (.int .i64 nv) (.int .i64 C.perSeat) (.int .i64 C.most) (.slice aL C.levels.length cL) (.slice aS C.schemas.length cS)
        refine bodyPost_ret (resC16 _ _ _ _ _ _ _ _ _ _ rfl rfl q1) rfl ?_
        have E0 := HZ0.out
        subst E0
        have cf := X5.cfv.off q3 (off_blk X5.r (by decide)) (off_blk X5.r (by decide)) (off_blk X5.r (by decide)) (off_blk X5.r (by decide))
        exact ⟨_, rfl, q2, cf.six, fun _ => by rw [HV.out]; exact cf⟩
      · have ez : (C.period != 0) = true := by simp [hz]
        have HZ0 : Hd (E = 5) := ⟨by rw [HZ.out]; simp [ifE, hz]⟩
        clear hz HZ
        go_wp2_with fail
        have E0 := HZ0.out
        subst E0
        obtain ⟨q1, q2, q3⟩ := X4.out.sets (.int .i64 C.total) (.int .i64 C.period) (.int .i64 C.perSeat) (.int .i64 C.most) (.slice aL C.levels.length cL) (.slice aS C.schemas.length cS)
        refine bodyPost_ret (resC16 _ _ _ _ _ _ _ _ _ _ rfl rfl q1) rfl ?_
        exact ⟨_, rfl, q2, ⟨_, _, _, _, _, _, _, _, _, _, rfl⟩, fun h => absurd h (by decide)⟩
  · have hl2 : ((ws.length : Int) != 2) = true := by simp; omega
    have HL2 : Hd (¬ ws.length = 2) := ⟨hl⟩
    clear hl
    have HZ : Hd (E = 2) := ⟨by
      rw [← HE.out]
      have e : ((ws.tail.length : Int) == 1) = false := by rw [List.length_tail]; have := HL2.out; simp; omega
      unfold periodE
      rw [e, ifE_no, mu_keep (e := 2) (by decide), mu_keep (e := 2) (by decide)]⟩
    generalize hm : ws.length = m at *
    clear hm
    go_enter Tryz.func16, Tryz.ntmps16
    go_upto_region 1 with fail
    generalize hw2 : World.alloc _ _ = w2
    have X2 : Hd (Bx B w w2 C (.slice aL C.levels.length cL) (.slice aS C.schemas.length cS) V) := ⟨by rw [← hw2]; exact X0.out⟩
    clear hw2 X0
    have c0 := (X2.out.bel.cell (p := ⟨b, off, none⟩) hb).trans h0
    obtain ⟨y0, y1, y2, y3, y4, y5⟩ := X2.out.reads
    go_wp2_with fail
    have X3 : Hd (Bx B w (w2.alloc (.cells #[.int .i64 1, .int .i64 1000] 69)) C (.slice aL C.levels.length cL) (.slice aS C.schemas.length cS) V) := ⟨X2.out.grown ((Below.refl _ _).alloc (Nat.le_refl _) _)⟩
    go_at_call 35
    refine (nums_no _ _ _ _ _ _ hl2).mono ?_
    clear X2 c0 y0 y1 y2 y3 y4 y5
    rintro e w4 ⟨hw4, rfl⟩
    rw [← hw4] at X3
    clear hw4
    obtain ⟨y0, y1, y2, y3, y4, y5⟩ := X3.out.reads
    obtain ⟨r0, r1, r2, r3, r4, r5, f0, f1, f2, f3, f4, f5⟩ := X3.out.room
    go_wp2_with fail
    have E0 := HZ.out
    subst E0
    obtain ⟨q1, q2, q3⟩ := X3.out.sets (.int .i64 C.total) (.int .i64 C.period) (.int .i64 C.perSeat) (.int .i64 C.most) (.slice aL C.levels.length cL) (.slice aS C.schemas.length cS)
    refine bodyPost_ret (resC16 _ _ _ _ _ _ _ _ _ _ rfl rfl q1) rfl ?_
    exact ⟨_, rfl, q2, ⟨_, _, _, _, _, _, _, _, _, _, rfl⟩, fun h => absurd h (by decide)⟩
set_option maxRecDepth 20000 in
set_option maxHeartbeats 4000000 in
theorem rline_seats {B : Nat} (b off c : Nat) (x : ByteArray) (ws : List ByteArray) (w : World) (C : Cf) (vL vS : Value) (V : List Value) (hL : LvOwn B w vL C.levels) (hS : ScOwn B w vS C.schemas V) (hb : b < w.heap.size) (h0 : w.cell? ⟨b, off, none⟩ = some (.string x))
    (t0 : (x.toList == [116, 111, 116, 97, 108]) = false)
    (t1 : (x.toList == [112, 101, 114, 105, 111, 100]) = false)
    (t2 : (x.toList == [115, 101, 97, 116, 115]) = true)
    (hr : RowL w (some ⟨b, off, none⟩) ws) (hp : 0 < ws.length) (hsz : ∀ k, (gt ws k).size ≤ 65536) :
    Calls Tryz.prog 16 #[.agg #[.int .i64 C.total, .int .i64 C.period, .int .i64 C.perSeat, .int .i64 C.most, vL, vS], .slice (some ⟨b, off, none⟩) ws.length c] w fun e w' => ∃ v, e = .returned (.tuple #[v, .int .i64 (seatsE C ws.tail)]) ∧ Below w.heap.size w w' ∧ Six v ∧ (seatsE C ws.tail = 0 → CfV B w' v ⟨C.total, C.period, numOf (gt ws 1) 1 1048576, numOf (gt ws 2) 1 16, C.levels, C.schemas⟩) := by
  have X0 : Hd _ := ⟨Bx.start hL hS⟩
  obtain ⟨aL, cL, rfl⟩ := own_form hL
  obtain ⟨aS, cS, rfl⟩ := own_form hS.own
  clear hL hS
  generalize hE : seatsE C ws.tail = E
  have HE : Hd (seatsE C ws.tail = E) := ⟨hE⟩
  clear hE
  have HR : Hd (RowL w (some ⟨b, off, none⟩) ws ∧ ∀ k, (gt ws k).size ≤ 65536) := ⟨hr, hsz⟩
  clear hr hsz
  by_cases hl : ws.length = 3
  · have HL : Hd (ws.length = 3) := ⟨hl⟩
    rw [hl]
    clear hl
    go_enter Tryz.func16, Tryz.ntmps16
    go_upto_region 1 with fail
    generalize hw2 : World.alloc _ _ = w2
    have X2 : Hd (Bx B w w2 C (.slice aL C.levels.length cL) (.slice aS C.schemas.length cS) V) := ⟨by rw [← hw2]; exact X0.out⟩
    clear hw2 X0
    have c0 := (X2.out.bel.cell (p := ⟨b, off, none⟩) hb).trans h0
    obtain ⟨y0, y1, y2, y3, y4, y5⟩ := X2.out.reads
    go_wp2_with fail
    have NG := nums_go (some ⟨b, off, none⟩) c ws w2.heap.size 2 2 (fun _ => 1) (hi2 1048576 16) (w2.alloc (.cells #[.int .i64 1, .int .i64 1048576, .int .i64 1, .int .i64 16] 69)) ((HR.out.1.carry X2.out.bel).carry ((Below.refl _ _).alloc (Nat.le_refl _) _)) HR.out.2 (BRow.new2 w2 1 1048576 16) HL.out (by decide)
    rw [HL.out] at NG
    have X3 : Hd (Bx B w (w2.alloc (.cells #[.int .i64 1, .int .i64 1048576, .int .i64 1, .int .i64 16] 69)) C (.slice aL C.levels.length cL) (.slice aS C.schemas.length cS) V) := ⟨X2.out.grown ((Below.refl _ _).alloc (Nat.le_refl _) _)⟩
    go_at_call 35
    refine NG.mono ?_
    clear NG X2 c0 y0 y1 y2 y3 y4 y5
    rintro e w4 ⟨b4, ⟨⟨j, hj, hn⟩, rfl⟩ | ⟨hok, v4, rfl, own4⟩⟩
    · have X4 : Hd (Bx B w w4 C (.slice aL C.levels.length cL) (.slice aS C.schemas.length cS) V) := ⟨X3.out.grown b4⟩
      obtain ⟨y0, y1, y2, y3, y4, y5⟩ := X4.out.reads
      obtain ⟨r0, r1, r2, r3, r4, r5, f0, f1, f2, f3, f4, f5⟩ := X4.out.room
      have HN : Hd (numIn (gt ws 1) 1 1048576 = false ∨ numIn (gt ws 2) 1 16 = false) := ⟨by
        match j, hj, hn with
        | 0, _, hn => exact .inl hn
        | 1, _, hn => exact .inr hn⟩
      clear hn X3 b4 hj
      go_wp2_with fail
      have EE : E = 8 := by rw [← HE.out]; unfold seatsE; rw [gt_tail, gt_tail, List.length_tail, HL.out]; rcases HN.out with h | h <;> rw [h] <;> simp [mu, ifE]; split <;> simp_all
      subst EE
      obtain ⟨q1, q2, q3⟩ := X4.out.sets (.int .i64 C.total) (.int .i64 C.period) (.int .i64 C.perSeat) (.int .i64 C.most) (.slice aL C.levels.length cL) (.slice aS C.schemas.length cS)
      refine bodyPost_ret (resC16 _ _ _ _ _ _ _ _ _ _ rfl rfl q1) rfl ?_
      exact ⟨_, rfl, q2, ⟨_, _, _, _, _, _, _, _, _, _, rfl⟩, fun h => absurd h (by decide)⟩
    · have X4 : Hd (Bx B w w4 C (.slice aL C.levels.length cL) (.slice aS C.schemas.length cS) V) := ⟨X3.out.grown b4⟩
      obtain ⟨y0, y1, y2, y3, y4, y5⟩ := X4.out.reads
      obtain ⟨r0, r1, r2, r3, r4, r5, f0, f1, f2, f3, f4, f5⟩ := X4.out.room
      have HN : Hd (numIn (gt ws 1) 1 1048576 = true ∧ numIn (gt ws 2) 1 16 = true) := ⟨hok 0 (by decide), hok 1 (by decide)⟩
      obtain ⟨a4, k4, rfl, h4⟩ := own4.at
      obtain ⟨g4, rfl, hg4, h4⟩ := h4 (by rw [numsTo_len]; decide)
      have d0 : w4.cell? ⟨g4, 0, none⟩ = some (.int .i64 (numOf (gt ws 1) 1 1048576)) := h4 0 (by rw [numsTo_len]; decide)
      have d1 : w4.cell? ⟨g4, 1, none⟩ = some (.int .i64 (numOf (gt ws 2) 1 16)) := h4 1 (by rw [numsTo_len]; decide)
      have HG : Hd (w.heap.size ≠ g4) := ⟨by have := (own4.lt g4 rfl).1; have := X3.out.c.lt; omega⟩
      rw [numsTo_len]
      clear h4 own4 hok X3 b4
      generalize hnv : numOf (gt ws 1) 1 1048576 = nv at *
      generalize hnm : numOf (gt ws 2) 1 16 = nm at *
      have HV : Hd (numOf (gt ws 1) 1 1048576 = nv ∧ numOf (gt ws 2) 1 16 = nm) := ⟨hnv, hnm⟩
      clear hnv hnm
      have HZ : Hd (E = ifE (C.perSeat == 0) 5) := ⟨by rw [← HE.out]; unfold seatsE; rw [gt_tail, gt_tail, HN.out.1, HN.out.2, List.length_tail, HL.out]; simp [mu, ifE]⟩
      by_cases hz : C.perSeat = 0
      · have ez : (C.perSeat != 0) = false := by simp [hz]
        have HZ0 : Hd (E = 0) := ⟨by rw [HZ.out, hz]; rfl⟩
        clear hz HZ
        go_wp2_with fail
        have DR : Below w4.heap.size w4 w4.drew := ⟨rfl, rfl, rfl, Nat.le_refl _, fun _ _ => rfl⟩
        have X5 : Hd (Bx B w w4.drew C (.slice aL C.levels.length cL) (.slice aS C.schemas.length cS) V) := ⟨X4.out.grown DR⟩
        have D5 : w4.drew.cell? ⟨g4, 0, none⟩ = some (.int .i64 nv) ∧ w4.drew.cell? ⟨g4, 1, none⟩ = some (.int .i64 nm) := ⟨(DR.cell (p := ⟨g4, 0, none⟩) hg4).trans d0, (DR.cell (p := ⟨g4, 1, none⟩) hg4).trans d1⟩
        clear X4 DR d0 d1 y0 y1 y2 y3 y4 y5 r0 r1 r2 r3 r4 r5 f0 f1 f2 f3 f4 f5 hg4
        refine AnyG.start (T := fun w' => w'.cell? ⟨g4, 0, none⟩ = some (.int .i64 nv) ∧ w'.cell? ⟨g4, 1, none⟩ = some (.int .i64 nm)) (U := fun _ => True) (j0 := 100) (by kernel_rfl) ?_
        generalize w4.drew = w5 at *
        refine AnyG.takeAt 0 82 (v := ?_) rfl rfl (by kernel_rfl) (by kernel_rfl) (by kernel_rfl) (by decide) (fun _ _ _ h => h) ⟨D5, fun _ => trivial⟩ (by rfl) ?_ ?_
        rotate_left
        · intro w hSw
          obtain ⟨s1, s2⟩ := hSw
          go_simp
          rfl
        simp only [List.setIfInBounds_toArray, List.set_cons_zero, List.set_cons_succ]
        refine AnyG.takeAt 1 83 (v := ?_) rfl rfl (by kernel_rfl) (by kernel_rfl) (by kernel_rfl) (by decide) (fun _ _ _ h => h) ⟨D5, fun _ => trivial⟩ (by rfl) ?_ ?_
        rotate_left
        · intro w hSw
          obtain ⟨s1, s2⟩ := hSw
          go_simp
          rfl
        simp only [List.setIfInBounds_toArray, List.set_cons_zero, List.set_cons_succ]
        refine AnyG.takeAt 2 84 (v := ?_) rfl rfl (by kernel_rfl) (by kernel_rfl) (by kernel_rfl) (by decide) (fun _ _ _ h => h) ⟨D5, fun _ => trivial⟩ (by rfl) ?_ ?_
        rotate_left
        · intro w hSw
          obtain ⟨s1, s2⟩ := hSw
          go_simp
          rfl
        simp only [List.setIfInBounds_toArray, List.set_cons_zero, List.set_cons_succ]
        refine AnyG.takeAt 3 85 (v := ?_) rfl rfl (by kernel_rfl) (by kernel_rfl) (by kernel_rfl) (by decide) (fun _ _ _ h => h) ⟨D5, fun _ => trivial⟩ (by rfl) ?_ ?_
        rotate_left
        · intro w hSw
          obtain ⟨s1, s2⟩ := hSw
          go_simp
          rfl
        simp only [List.setIfInBounds_toArray, List.set_cons_zero, List.set_cons_succ]
        refine AnyG.takeAt 4 86 (v := ?_) rfl rfl (by kernel_rfl) (by kernel_rfl) (by kernel_rfl) (by decide) (fun _ _ _ h => h) ⟨D5, fun _ => trivial⟩ (by rfl) ?_ ?_
        rotate_left
        · intro w hSw
          obtain ⟨s1, s2⟩ := hSw
          go_simp
          rfl
        simp only [List.setIfInBounds_toArray, List.set_cons_zero, List.set_cons_succ]
        refine AnyG.takeAt 5 87 (v := ?_) rfl rfl (by kernel_rfl) (by kernel_rfl) (by kernel_rfl) (by decide) (fun _ _ _ h => h) ⟨D5, fun _ => trivial⟩ (by rfl) ?_ ?_
        rotate_left
        · intro w hSw
          obtain ⟨s1, s2⟩ := hSw
          go_simp
          rfl
        simp only [List.setIfInBounds_toArray, List.set_cons_zero, List.set_cons_succ]
        refine AnyG.takeAt 6 88 (v := ?_) rfl rfl (by kernel_rfl) (by kernel_rfl) (by kernel_rfl) (by decide) (fun _ _ _ h => h) ⟨D5, fun _ => trivial⟩ (by rfl) ?_ ?_
        rotate_left
        · intro w hSw
          obtain ⟨s1, s2⟩ := hSw
          go_simp
          rfl
        simp only [List.setIfInBounds_toArray, List.set_cons_zero, List.set_cons_succ]
        refine AnyG.ready (rs := [7]) (by kernel_rfl) (by simp) ?_
        refine AllG.cons rfl (fun K hK => ?_) AllG.nil
        have p2 := X5.out.c.cellv (v := .int .i64 C.perSeat) 2 rfl
        have pf2 := X5.out.c.frozen 2
        go_simp
        have D6 : (w5.setCell ⟨w.heap.size, 2, none⟩ (.int .i64 nv)).cell? ⟨g4, 0, none⟩ = some (.int .i64 nv) ∧ (w5.setCell ⟨w.heap.size, 2, none⟩ (.int .i64 nv)).cell? ⟨g4, 1, none⟩ = some (.int .i64 nm) := ⟨(World.cell?_setCell_far _ _ _ _ HG.out).trans D5.1, (World.cell?_setCell_far _ _ _ _ HG.out).trans D5.2⟩
        have X6 : Hd (Bx B w (w5.setCell ⟨w.heap.size, 2, none⟩ (.int .i64 nv)) ⟨C.total, C.period, nv, C.most, C.levels, C.schemas⟩ (.slice aL C.levels.length cL) (.slice aS C.schemas.length cS) V) := ⟨X5.out.num 2 (.int .i64 nv) rfl rfl rfl⟩
        refine hK.out _ _ ⟨D6, fun _ => trivial⟩ ?_
        clear hK K p2 pf2 X5 D5
        generalize w5.setCell _ _ = w6 at *
        refine AnyG.takeAt 8 89 (v := ?_) rfl rfl (by kernel_rfl) (by kernel_rfl) (by kernel_rfl) (by decide) (fun _ _ _ h => h) ⟨D6, fun _ => trivial⟩ (by rfl) ?_ ?_
        rotate_left
        · intro w hSw
          obtain ⟨s1, s2⟩ := hSw
          go_simp
          rfl
        simp only [List.setIfInBounds_toArray, List.set_cons_zero, List.set_cons_succ]
        refine AnyG.ready (rs := [9]) (by kernel_rfl) (by simp) ?_
        refine AllG.cons rfl (fun K hK => ?_) AllG.nil
        have p3 := X6.out.c.cellv (v := .int .i64 C.most) 3 rfl
        have pf3 := X6.out.c.frozen 3
        go_simp
        have D7 : (w6.setCell ⟨w.heap.size, 3, none⟩ (.int .i64 nm)).cell? ⟨g4, 0, none⟩ = some (.int .i64 nv) ∧ (w6.setCell ⟨w.heap.size, 3, none⟩ (.int .i64 nm)).cell? ⟨g4, 1, none⟩ = some (.int .i64 nm) := ⟨(World.cell?_setCell_far _ _ _ _ HG.out).trans D6.1, (World.cell?_setCell_far _ _ _ _ HG.out).trans D6.2⟩
        have X7 : Bx B w (w6.setCell ⟨w.heap.size, 3, none⟩ (.int .i64 nm)) ⟨C.total, C.period, nv, nm, C.levels, C.schemas⟩ (.slice aL C.levels.length cL) (.slice aS C.schemas.length cS) V := X6.out.num 3 (.int .i64 nm) rfl rfl rfl
        refine hK.out _ _ ⟨D7, fun _ => trivial⟩ ?_
        clear hK K p3 pf3 X6 D6 D7
        generalize w6.setCell _ _ = w7 at *
        refine AnyG.done (by kernel_rfl) ?_ _
        obtain ⟨y0, y1, y2, y3, y4, y5⟩ := X7.reads
        obtain ⟨r0, r1, r2, r3, r4, r5, f0, f1, f2, f3, f4, f5⟩ := X7.room
        go_wp2_with fail
        obtain ⟨q1, q2, q3⟩ := X7.sets (.int .i64 C.total) (.int .i64 C.period) (.int .i64 nv) (.int .i64 nm) (.slice aL C.levels.length cL) (.slice aS C.schemas.length cS)
        refine bodyPost_ret (resC16 _ _ _ _ _ _ _ _ _ _ rfl rfl q1) rfl ?_
        have E0 := HZ0.out
        subst E0
        have cf := X7.cfv.off q3 (off_blk X7.r (by decide)) (off_blk X7.r (by decide)) (off_blk X7.r (by decide)) (off_blk X7.r (by decide))
        exact ⟨_, rfl, q2, cf.six, fun _ => by rw [HV.out.1, HV.out.2]; exact cf⟩
      · have ez : (C.perSeat != 0) = true := by simp [hz]
        have HZ0 : Hd (E = 5) := ⟨by rw [HZ.out]; simp [ifE, hz]⟩
        clear hz HZ
        go_wp2_with fail
        have E0 := HZ0.out
        subst E0
        obtain ⟨q1, q2, q3⟩ := X4.out.sets (.int .i64 C.total) (.int .i64 C.period) (.int .i64 C.perSeat) (.int .i64 C.most) (.slice aL C.levels.length cL) (.slice aS C.schemas.length cS)
        refine bodyPost_ret (resC16 _ _ _ _ _ _ _ _ _ _ rfl rfl q1) rfl ?_
        exact ⟨_, rfl, q2, ⟨_, _, _, _, _, _, _, _, _, _, rfl⟩, fun h => absurd h (by decide)⟩
  · have hl2 : ((ws.length : Int) != 3) = true := by simp; omega
    have HL2 : Hd (¬ ws.length = 3) := ⟨hl⟩
    clear hl
    have HZ : Hd (E = 2) := ⟨by
      rw [← HE.out]
      have e : ((ws.tail.length : Int) == 2) = false := by rw [List.length_tail]; have := HL2.out; simp; omega
      unfold seatsE
      rw [e, ifE_no, mu_keep (e := 2) (by decide), mu_keep (e := 2) (by decide), mu_keep (e := 2) (by decide)]⟩
    generalize hm : ws.length = m at *
    clear hm
    go_enter Tryz.func16, Tryz.ntmps16
    go_upto_region 1 with fail
    generalize hw2 : World.alloc _ _ = w2
    have X2 : Hd (Bx B w w2 C (.slice aL C.levels.length cL) (.slice aS C.schemas.length cS) V) := ⟨by rw [← hw2]; exact X0.out⟩
    clear hw2 X0
    have c0 := (X2.out.bel.cell (p := ⟨b, off, none⟩) hb).trans h0
    obtain ⟨y0, y1, y2, y3, y4, y5⟩ := X2.out.reads
    go_wp2_with fail
    have X3 : Hd (Bx B w (w2.alloc (.cells #[.int .i64 1, .int .i64 1048576, .int .i64 1, .int .i64 16] 69)) C (.slice aL C.levels.length cL) (.slice aS C.schemas.length cS) V) := ⟨X2.out.grown ((Below.refl _ _).alloc (Nat.le_refl _) _)⟩
    go_at_call 35
    refine (nums_no _ _ _ _ _ _ hl2).mono ?_
    clear X2 c0 y0 y1 y2 y3 y4 y5
    rintro e w4 ⟨hw4, rfl⟩
    rw [← hw4] at X3
    clear hw4
    obtain ⟨y0, y1, y2, y3, y4, y5⟩ := X3.out.reads
    obtain ⟨r0, r1, r2, r3, r4, r5, f0, f1, f2, f3, f4, f5⟩ := X3.out.room
    go_wp2_with fail
    have E0 := HZ.out
    subst E0
    obtain ⟨q1, q2, q3⟩ := X3.out.sets (.int .i64 C.total) (.int .i64 C.period) (.int .i64 C.perSeat) (.int .i64 C.most) (.slice aL C.levels.length cL) (.slice aS C.schemas.length cS)
    refine bodyPost_ret (resC16 _ _ _ _ _ _ _ _ _ _ rfl rfl q1) rfl ?_
    exact ⟨_, rfl, q2, ⟨_, _, _, _, _, _, _, _, _, _, rfl⟩, fun h => absurd h (by decide)⟩
set_option maxRecDepth 20000 in
set_option maxHeartbeats 4000000 in
theorem rline_level {B : Nat} (b off c : Nat) (x : ByteArray) (ws : List ByteArray) (w : World) (C : Cf) (vL vS : Value) (V : List Value) (hL : LvOwn B w vL C.levels) (hS : ScOwn B w vS C.schemas V) (hb : b < w.heap.size) (h0 : w.cell? ⟨b, off, none⟩ = some (.string x))
    (t0 : (x.toList == [116, 111, 116, 97, 108]) = false)
    (t1 : (x.toList == [112, 101, 114, 105, 111, 100]) = false)
    (t2 : (x.toList == [115, 101, 97, 116, 115]) = false)
    (t3 : (x.toList == [108, 101, 118, 101, 108]) = true)
    (hr : RowL w (some ⟨b, off, none⟩) ws) (hp : 0 < ws.length) (hsz : ∀ k, (gt ws k).size ≤ 65536) (hF : C.levels.length ≤ 16) (hB : B ≤ w.heap.size) :
    Calls Tryz.prog 16 #[.agg #[.int .i64 C.total, .int .i64 C.period, .int .i64 C.perSeat, .int .i64 C.most, vL, vS], .slice (some ⟨b, off, none⟩) ws.length c] w fun e w' => ∃ v, e = .returned (.tuple #[v, .int .i64 (levelE C ws.tail)]) ∧ Below w.heap.size w w' ∧ Six v ∧ (levelE C ws.tail = 0 → CfV B w' v ⟨C.total, C.period, C.perSeat, C.most, C.levels ++ [levelOf ws.tail], C.schemas⟩) := by
  have X0 : Hd _ := ⟨Bx.start hL hS⟩
  obtain ⟨aL, cL, rfl⟩ := own_form hL
  obtain ⟨aS, cS, rfl⟩ := own_form hS.own
  clear hL hS
  have RK : Hd (∀ W v, CfV B W v C → RowL W (some ⟨b, off, none⟩) ws → B ≤ W.heap.size → _) := ⟨fun W v h1 h2 h3 => rlevel_ok (some ⟨b, off, none⟩) c ws W C v h1 h2 hp hsz hF h3⟩
  have HR : Hd (RowL w (some ⟨b, off, none⟩) ws) := ⟨hr⟩
  clear hr hsz hF
  generalize levelE C ws.tail = E at *
  generalize (⟨C.total, C.period, C.perSeat, C.most, C.levels ++ [levelOf ws.tail], C.schemas⟩ : Cf) = D at *
  generalize hm : ws.length = m at *
  clear hm
  go_enter Tryz.func16, Tryz.ntmps16
  go_upto_region 1 with fail
  generalize hw2 : World.alloc _ _ = w2
  have X2 : Hd (Bx B w w2 C (.slice aL C.levels.length cL) (.slice aS C.schemas.length cS) V) := ⟨by rw [← hw2]; exact X0.out⟩
  clear hw2 X0
  have c0 := (X2.out.bel.cell (p := ⟨b, off, none⟩) hb).trans h0
  obtain ⟨y0, y1, y2, y3, y4, y5⟩ := X2.out.reads
  have RK2 := RK.out w2 _ X2.out.cfv (HR.out.carry X2.out.bel) (Nat.le_trans hB X2.out.bel.size)
  clear RK HR
  go_wp2_with fail
  go_at_call 36
  refine RK2.mono ?_
  clear RK2
  rintro e w3 ⟨v3, rfl, b3, ⟨x0, x1, x2, x3, a1, n1, c1, a2, n2, c2, rfl⟩, cf⟩
  have X3 : Hd (Bx B w w3 C (.slice aL C.levels.length cL) (.slice aS C.schemas.length cS) V) := ⟨X2.out.grown b3⟩
  have HC : Hd (E = 0 → CfV B w3 _ D) := ⟨cf⟩
  clear cf X2 b3 c0 y0 y1 y2 y3 y4 y5
  obtain ⟨r0, r1, r2, r3, r4, r5, f0, f1, f2, f3, f4, f5⟩ := X3.out.room
  go_wp2_with fail
  obtain ⟨q1, q2, q3⟩ := X3.out.sets (.int .i64 x0) (.int .i64 x1) (.int .i64 x2) (.int .i64 x3) (.slice a1 n1 c1) (.slice a2 n2 c2)
  refine bodyPost_ret (resC16 _ _ _ _ _ _ _ _ _ _ rfl rfl q1) rfl ?_
  exact ⟨_, rfl, q2, ⟨_, _, _, _, _, _, _, _, _, _, rfl⟩, fun h => (HC.out h).off q3 (off_blk X3.out.r (by decide)) (off_blk X3.out.r (by decide)) (off_blk X3.out.r (by decide)) (off_blk X3.out.r (by decide))⟩
set_option maxRecDepth 20000 in
set_option maxHeartbeats 4000000 in
theorem rline_schema {B : Nat} (b off c : Nat) (x : ByteArray) (ws : List ByteArray) (w : World) (C : Cf) (vL vS : Value) (V : List Value) (hL : LvOwn B w vL C.levels) (hS : ScOwn B w vS C.schemas V) (hb : b < w.heap.size) (h0 : w.cell? ⟨b, off, none⟩ = some (.string x))
    (t0 : (x.toList == [116, 111, 116, 97, 108]) = false)
    (t1 : (x.toList == [112, 101, 114, 105, 111, 100]) = false)
    (t2 : (x.toList == [115, 101, 97, 116, 115]) = false)
    (t3 : (x.toList == [108, 101, 118, 101, 108]) = false)
    (t4 : (x.toList == [115, 99, 104, 101, 109, 97]) = true)
    (hr : RowL w (some ⟨b, off, none⟩) ws) (hp : 0 < ws.length) (hsz : ∀ k, (gt ws k).size ≤ 65536) (hF : C.schemas.length ≤ 32) (hB : B ≤ w.heap.size) :
    Calls Tryz.prog 16 #[.agg #[.int .i64 C.total, .int .i64 C.period, .int .i64 C.perSeat, .int .i64 C.most, vL, vS], .slice (some ⟨b, off, none⟩) ws.length c] w fun e w' => ∃ v, e = .returned (.tuple #[v, .int .i64 (schemaE C ws.tail)]) ∧ Below w.heap.size w w' ∧ Six v ∧ (schemaE C ws.tail = 0 → CfV B w' v ⟨C.total, C.period, C.perSeat, C.most, C.levels, C.schemas ++ [schemaOf ws.tail]⟩) := by
  have X0 : Hd _ := ⟨Bx.start hL hS⟩
  obtain ⟨aL, cL, rfl⟩ := own_form hL
  obtain ⟨aS, cS, rfl⟩ := own_form hS.own
  clear hL hS
  have RK : Hd (∀ W v, CfV B W v C → RowL W (some ⟨b, off, none⟩) ws → B ≤ W.heap.size → _) := ⟨fun W v h1 h2 h3 => rschema_ok (some ⟨b, off, none⟩) c ws W C v h1 h2 hp hsz hF h3⟩
  have HR : Hd (RowL w (some ⟨b, off, none⟩) ws) := ⟨hr⟩
  clear hr hsz hF
  generalize schemaE C ws.tail = E at *
  generalize (⟨C.total, C.period, C.perSeat, C.most, C.levels, C.schemas ++ [schemaOf ws.tail]⟩ : Cf) = D at *
  generalize hm : ws.length = m at *
  clear hm
  go_enter Tryz.func16, Tryz.ntmps16
  go_upto_region 1 with fail
  generalize hw2 : World.alloc _ _ = w2
  have X2 : Hd (Bx B w w2 C (.slice aL C.levels.length cL) (.slice aS C.schemas.length cS) V) := ⟨by rw [← hw2]; exact X0.out⟩
  clear hw2 X0
  have c0 := (X2.out.bel.cell (p := ⟨b, off, none⟩) hb).trans h0
  obtain ⟨y0, y1, y2, y3, y4, y5⟩ := X2.out.reads
  have RK2 := RK.out w2 _ X2.out.cfv (HR.out.carry X2.out.bel) (Nat.le_trans hB X2.out.bel.size)
  clear RK HR
  go_wp2_with fail
  go_at_call 37
  refine RK2.mono ?_
  clear RK2
  rintro e w3 ⟨v3, rfl, b3, ⟨x0, x1, x2, x3, a1, n1, c1, a2, n2, c2, rfl⟩, cf⟩
  have X3 : Hd (Bx B w w3 C (.slice aL C.levels.length cL) (.slice aS C.schemas.length cS) V) := ⟨X2.out.grown b3⟩
  have HC : Hd (E = 0 → CfV B w3 _ D) := ⟨cf⟩
  clear cf X2 b3 c0 y0 y1 y2 y3 y4 y5
  obtain ⟨r0, r1, r2, r3, r4, r5, f0, f1, f2, f3, f4, f5⟩ := X3.out.room
  go_wp2_with fail
  obtain ⟨q1, q2, q3⟩ := X3.out.sets (.int .i64 x0) (.int .i64 x1) (.int .i64 x2) (.int .i64 x3) (.slice a1 n1 c1) (.slice a2 n2 c2)
  refine bodyPost_ret (resC16 _ _ _ _ _ _ _ _ _ _ rfl rfl q1) rfl ?_
  exact ⟨_, rfl, q2, ⟨_, _, _, _, _, _, _, _, _, _, rfl⟩, fun h => (HC.out h).off q3 (off_blk X3.out.r (by decide)) (off_blk X3.out.r (by decide)) (off_blk X3.out.r (by decide)) (off_blk X3.out.r (by decide))⟩
set_option maxRecDepth 20000 in
set_option maxHeartbeats 4000000 in
theorem rline_rule {B : Nat} (b off c : Nat) (x : ByteArray) (ws : List ByteArray) (w : World) (C : Cf) (vL vS : Value) (V : List Value) (hL : LvOwn B w vL C.levels) (hS : ScOwn B w vS C.schemas V) (hb : b < w.heap.size) (h0 : w.cell? ⟨b, off, none⟩ = some (.string x))
    (t0 : (x.toList == [116, 111, 116, 97, 108]) = false)
    (t1 : (x.toList == [112, 101, 114, 105, 111, 100]) = false)
    (t2 : (x.toList == [115, 101, 97, 116, 115]) = false)
    (t3 : (x.toList == [108, 101, 118, 101, 108]) = false)
    (t4 : (x.toList == [115, 99, 104, 101, 109, 97]) = false)
    (t5 : (x.toList == [114, 117, 108, 101]) = true)
    (hr : RowL w (some ⟨b, off, none⟩) ws) (hp : 0 < ws.length) (hsz : ∀ k, (gt ws k).size ≤ 65536) (hF : C.schemas.length ≤ 32) (hB : B ≤ w.heap.size) :
    Calls Tryz.prog 16 #[.agg #[.int .i64 C.total, .int .i64 C.period, .int .i64 C.perSeat, .int .i64 C.most, vL, vS], .slice (some ⟨b, off, none⟩) ws.length c] w fun e w' => ∃ v, e = .returned (.tuple #[v, .int .i64 (ruleE C ws.tail)]) ∧ Below w.heap.size w w' ∧ Six v ∧ (ruleE C ws.tail = 0 → CfV B w' v ⟨C.total, C.period, C.perSeat, C.most, C.levels, addRule (ruleOf ws.tail) C.schemas⟩) := by
  have X0 : Hd _ := ⟨Bx.start hL hS⟩
  obtain ⟨aL, cL, rfl⟩ := own_form hL
  obtain ⟨aS, cS, rfl⟩ := own_form hS.own
  clear hL hS
  have RK : Hd (∀ W v, CfV B W v C → RowL W (some ⟨b, off, none⟩) ws → B ≤ W.heap.size → _) := ⟨fun W v h1 h2 h3 => rrule_ok (some ⟨b, off, none⟩) c ws W C v h1 h2 hp hsz hF h3⟩
  have HR : Hd (RowL w (some ⟨b, off, none⟩) ws) := ⟨hr⟩
  clear hr hsz hF
  generalize ruleE C ws.tail = E at *
  generalize (⟨C.total, C.period, C.perSeat, C.most, C.levels, addRule (ruleOf ws.tail) C.schemas⟩ : Cf) = D at *
  generalize hm : ws.length = m at *
  clear hm
  go_enter Tryz.func16, Tryz.ntmps16
  go_upto_region 1 with fail
  generalize hw2 : World.alloc _ _ = w2
  have X2 : Hd (Bx B w w2 C (.slice aL C.levels.length cL) (.slice aS C.schemas.length cS) V) := ⟨by rw [← hw2]; exact X0.out⟩
  clear hw2 X0
  have c0 := (X2.out.bel.cell (p := ⟨b, off, none⟩) hb).trans h0
  obtain ⟨y0, y1, y2, y3, y4, y5⟩ := X2.out.reads
  have RK2 := RK.out w2 _ X2.out.cfv (HR.out.carry X2.out.bel) (Nat.le_trans hB X2.out.bel.size)
  clear RK HR
  go_wp2_with fail
  go_at_call 38
  refine RK2.mono ?_
  clear RK2
  rintro e w3 ⟨v3, rfl, b3, ⟨x0, x1, x2, x3, a1, n1, c1, a2, n2, c2, rfl⟩, cf⟩
  have X3 : Hd (Bx B w w3 C (.slice aL C.levels.length cL) (.slice aS C.schemas.length cS) V) := ⟨X2.out.grown b3⟩
  have HC : Hd (E = 0 → CfV B w3 _ D) := ⟨cf⟩
  clear cf X2 b3 c0 y0 y1 y2 y3 y4 y5
  obtain ⟨r0, r1, r2, r3, r4, r5, f0, f1, f2, f3, f4, f5⟩ := X3.out.room
  go_wp2_with fail
  obtain ⟨q1, q2, q3⟩ := X3.out.sets (.int .i64 x0) (.int .i64 x1) (.int .i64 x2) (.int .i64 x3) (.slice a1 n1 c1) (.slice a2 n2 c2)
  refine bodyPost_ret (resC16 _ _ _ _ _ _ _ _ _ _ rfl rfl q1) rfl ?_
  exact ⟨_, rfl, q2, ⟨_, _, _, _, _, _, _, _, _, _, rfl⟩, fun h => (HC.out h).off q3 (off_blk X3.out.r (by decide)) (off_blk X3.out.r (by decide)) (off_blk X3.out.r (by decide)) (off_blk X3.out.r (by decide))⟩
set_option maxRecDepth 20000 in
set_option maxHeartbeats 4000000 in
theorem rline_none {B : Nat} (b off c : Nat) (x : ByteArray) (m : Nat) (w : World) (C : Cf) (vL vS : Value) (V : List Value) (hL : LvOwn B w vL C.levels) (hS : ScOwn B w vS C.schemas V) (hb : b < w.heap.size) (h0 : w.cell? ⟨b, off, none⟩ = some (.string x))
    (t0 : (x.toList == [116, 111, 116, 97, 108]) = false)
    (t1 : (x.toList == [112, 101, 114, 105, 111, 100]) = false)
    (t2 : (x.toList == [115, 101, 97, 116, 115]) = false)
    (t3 : (x.toList == [108, 101, 118, 101, 108]) = false)
    (t4 : (x.toList == [115, 99, 104, 101, 109, 97]) = false)
    (t5 : (x.toList == [114, 117, 108, 101]) = false)
    (hp : 0 < m) : Calls Tryz.prog 16 #[.agg #[.int .i64 C.total, .int .i64 C.period, .int .i64 C.perSeat, .int .i64 C.most, vL, vS], .slice (some ⟨b, off, none⟩) m c] w fun e w' => ∃ v, e = .returned (.tuple #[v, .int .i64 2]) ∧ Below w.heap.size w w' ∧ Six v := by
  have X0 : Hd _ := ⟨Bx.start hL hS⟩
  obtain ⟨aL, cL, rfl⟩ := own_form hL
  obtain ⟨aS, cS, rfl⟩ := own_form hS.own
  clear hL hS
  go_enter Tryz.func16, Tryz.ntmps16
  go_upto_region 1 with fail
  generalize hw2 : World.alloc _ _ = w2
  have X2 : Hd (Bx B w w2 C (.slice aL C.levels.length cL) (.slice aS C.schemas.length cS) V) := ⟨by rw [← hw2]; exact X0.out⟩
  clear hw2 X0
  have c0 := (X2.out.bel.cell (p := ⟨b, off, none⟩) hb).trans h0
  obtain ⟨y0, y1, y2, y3, y4, y5⟩ := X2.out.reads
  obtain ⟨r0, r1, r2, r3, r4, r5, f0, f1, f2, f3, f4, f5⟩ := X2.out.room
  go_wp2_with fail
  obtain ⟨q1, q2, q3⟩ := X2.out.sets (.int .i64 C.total) (.int .i64 C.period) (.int .i64 C.perSeat) (.int .i64 C.most) (.slice aL C.levels.length cL) (.slice aS C.schemas.length cS)
  refine bodyPost_ret (resC16 _ _ _ _ _ _ _ _ _ _ rfl rfl q1) rfl ?_
  exact ⟨_, rfl, q2, ⟨_, _, _, _, _, _, _, _, _, _, rfl⟩⟩

theorem rline_ok {B : Nat} (a : Option Addr) (c : Nat) (ws : List ByteArray) (w : World) (C : Cf) (v : Value) (hv : CfV B w v C) (hr : RowL w a ws) (hl : 0 < ws.length) (hsz : ∀ k, (gt ws k).size ≤ 65536) (hF : Fit C) (hB : B ≤ w.heap.size) :
    Calls Tryz.prog 16 #[v, .slice a ws.length c] w fun e w' => ∃ v', e = .returned (.tuple #[v', .int .i64 (tellE C (gt ws 0) ws.tail)]) ∧ Below w.heap.size w w' ∧ Six v'
      ∧ (tellE C (gt ws 0) ws.tail = 0 → CfV B w' v' (tellC C (gt ws 0) ws.tail)) := by
  obtain ⟨vL, vS, V, rfl, hL, hS⟩ := hv
  obtain ⟨b, off, rfl, hb, hc⟩ := hr hl
  have h0 := hc 0 hl
  rw [Nat.add_zero] at h0
  generalize gt ws 0 = x at *
  unfold tellE tellC
  simp only [gt_tail]
  by_cases t0 : x = tTotal
  · rw [if_pos t0, if_pos t0]
    exact rline_total b off c x ws w C vL vS V hL hS hb h0 (lit_is t0) hr hl hsz
  have u0 := lit_isnt (l := [116, 111, 116, 97, 108]) t0
  rw [if_neg t0, if_neg t0]
  by_cases t1 : x = tPeriod
  · rw [if_pos t1, if_pos t1]
    exact rline_period b off c x ws w C vL vS V hL hS hb h0 u0 (lit_is t1) hr hl hsz
  have u1 := lit_isnt (l := [112, 101, 114, 105, 111, 100]) t1
  rw [if_neg t1, if_neg t1]
  by_cases t2 : x = tSeats
  · rw [if_pos t2, if_pos t2]
    exact rline_seats b off c x ws w C vL vS V hL hS hb h0 u0 u1 (lit_is t2) hr hl hsz
  have u2 := lit_isnt (l := [115, 101, 97, 116, 115]) t2
  rw [if_neg t2, if_neg t2]
  by_cases t3 : x = tLevel
  · rw [if_pos t3, if_pos t3]
    exact rline_level b off c x ws w C vL vS V hL hS hb h0 u0 u1 u2 (lit_is t3) hr hl hsz hF.1 hB
  have u3 := lit_isnt (l := [108, 101, 118, 101, 108]) t3
  rw [if_neg t3, if_neg t3]
  by_cases t4 : x = tSchema
  · rw [if_pos t4, if_pos t4]
    exact rline_schema b off c x ws w C vL vS V hL hS hb h0 u0 u1 u2 u3 (lit_is t4) hr hl hsz hF.2 hB
  have u4 := lit_isnt (l := [115, 99, 104, 101, 109, 97]) t4
  rw [if_neg t4, if_neg t4]
  by_cases t5 : x = tRule
  · rw [if_pos t5]
    exact rline_rule b off c x ws w C vL vS V hL hS hb h0 u0 u1 u2 u3 u4 (lit_is t5) hr hl hsz hF.2 hB
  rw [if_neg t5]
  refine (rline_none b off c x ws.length w C vL vS V hL hS hb h0 u0 u1 u2 u3 u4 (lit_isnt t5) hl).mono ?_
  rintro e w' ⟨v, rfl, h1, h2⟩
  exact ⟨v, rfl, h1, h2, fun h => absurd h (by decide)⟩

end Go.Proofs.YtaodckojinbdfaaGreatDoor

namespace Go.Proofs.YtaodckojinbdfaaGreatDoor
open Go.RowKit Go.Lib

theorem rlines_y (s : ByteArray) (w : World) (hs : s.size ≤ 131072) :
    Calls Tryz.prog 14 #[.string s] w fun e w' => ∃ a c, e = .returned (.slice a (linesB s).length c) ∧ RowY w.heap.size w' a (linesB s) ∧ Below w.heap.size w w' := by
  have S := rcut_y s 10 10 (by decide) w hs
  have hlen := cutB_len 10 s
  have hc := count_le s 10
  have HE : Hd (linesB s = if gt (cutB 10 s) ((cutB 10 s).length - 1) = ⟨#[]⟩ then (cutB 10 s).dropLast else cutB 10 s) := ⟨rfl⟩
  generalize linesB s = R at *
  generalize cutB 10 s = L at *
  obtain ⟨m, hm⟩ : ∃ m, L.length = m + 1 := ⟨_, hlen⟩
  rw [hm] at S
  have HM : Hd (L.length = m + 1) := ⟨hm⟩
  have hm2 : m ≤ 4294967281 := by omega
  clear hlen hm hc
  go_enter Tryz.func14, Tryz.ntmps14
  go_wp2_with fail
  go_at_call 34
  refine S.mono ?_
  rintro e w1 ⟨a, cap, rfl, hr, hcap, hb⟩
  obtain ⟨b, off, rfl, hbl, hcs⟩ := hr.row (by rw [HM.out]; omega)
  have hcell := hcs m (by rw [HM.out]; omega)
  have hrow : Hd (RowY w.heap.size w1 (some ⟨b, off, none⟩) L) := ⟨hr⟩
  clear hr hcs S
  by_cases hz : gt L m = ⟨#[]⟩
  · rw [hz] at hcell
    have hR : R = L.dropLast := by rw [HE.out, if_pos (by rw [HM.out]; exact hz)]
    have hlen : R.length = m := by rw [hR, List.length_dropLast, HM.out]; rfl
    have hres : RowY w.heap.size w1 (some ⟨b, off, none⟩) R := by rw [hR]; exact hrow.out.dropLast
    have HRES : Hd (RowY w.heap.size w1 (some ⟨b, off, none⟩) R ∧ R.length = m) := ⟨hres, hlen⟩
    clear hres hlen hR hz HE hrow
    go_wp2
    go_ret
    refine ⟨some ⟨b, off, none⟩, cap, ?_, HRES.out.1, hb⟩
    rw [HRES.out.2]
    rfl
  · have ne := str_ne hz
    have hR : R = L := by rw [HE.out, if_neg (by rw [HM.out]; exact hz)]
    have HRES : Hd (RowY w.heap.size w1 (some ⟨b, off, none⟩) R ∧ R.length = m + 1) := ⟨by rw [hR]; exact hrow.out, by rw [hR]; exact HM.out⟩
    clear hR hz HE hrow
    generalize gt L m = x at *
    have ne' : x.toList.isEmpty = false := by
      cases h : x.toList with
      | nil => rw [h] at ne; simp at ne
      | cons _ _ => rfl
    go_wp2
    go_ret
    refine ⟨some ⟨b, off, none⟩, cap, ?_, HRES.out.1, hb⟩
    rw [HRES.out.2]
    rfl

theorem resP6 (tmps : Array Value) (w : World) (r0 : Nat) (v0 v1 v2 v3 v4 v5 e1 e2 : Value) (ht : tmps[2]?.getD undef = .pointer (some ⟨r0, 0, none⟩)) (h3 : tmps[3]?.getD undef = e1) (h4 : tmps[4]?.getD undef = e2) (h : Blk w r0 26 #[v0, v1, v2, v3, v4, v5]) :
    (results Tryz.f6 tmps).run Tryz.prog w = .ok (.tuple #[.agg #[v0, v1, v2, v3, v4, v5], e1, e2]) w := by
  have c0 := h.cellv 0 rfl
  have c1 := h.cellv 1 rfl
  have c2 := h.cellv 2 rfl
  have c3 := h.cellv 3 rfl
  have c4 := h.cellv 4 rfl
  have c5 := h.cellv 5 rfl
  simp at c0 c1 c2 c3 c4 c5
  simp [results, Tryz.results6, go_sem, ht, h3, h4, c0, c1, c2, c3, c4, c5]

/-- How far the text is read. -/
structure PQ (w wr : World) (L : List ByteArray) (a : Option Addr) (k : Nat) (C : Cf) : Prop where
  bel : Below w.heap.size w wr
  res : Blk wr w.heap.size 26 #[.int .i64 0, .int .i64 0, .int .i64 0, .int .i64 0, .slice none 0 0, .slice none 0 0]
  box : ∃ vL vS V, Blk wr (w.heap.size + 1) 26 #[.int .i64 C.total, .int .i64 C.period, .int .i64 C.perSeat, .int .i64 C.most, vL, vS] ∧ LvOwn w.heap.size wr vL C.levels ∧ ScOwn w.heap.size wr vS C.schemas V
  row : RowY 0 wr a L
  fit : Fit C
  eE : goE cf0 L = goE C (L.drop k)
  eC : goC cf0 L = goC C (L.drop k)
  eL : goL cf0 0 L = goL C k (L.drop k)
theorem PQ.grown {w wr w' : World} {L : List ByteArray} {a : Option Addr} {k : Nat} {C : Cf} (h : PQ w wr L a k C) (b : Below wr.heap.size wr w') : PQ w w' L a k C := by
  have kk : Kept (fun _ => False) wr w' := Kept.of_below b _
  have f : ∀ t, Off t (fun _ => False) wr := fun _ _ _ _ _ => id
  obtain ⟨vL, vS, V, h1, h2, h3⟩ := h.box
  exact ⟨h.bel.trans (b.mono h.bel.size), h.res.off kk (f _), ⟨vL, vS, V, h1.off kk (f _), h2.off kk (f _), h3.off kk (f _) (f _) (f _)⟩, h.row.below b, h.fit, h.eE, h.eC, h.eL⟩
theorem PQ.step {w wr : World} {L : List ByteArray} {a : Option Addr} {k : Nat} {C : Cf} (h : PQ w wr L a k C) (hk : k < L.length) (e : lineE C (wordsB (gt L k)) = 0) (ec : lineC C (wordsB (gt L k)) = C) : PQ w wr L a (k + 1) C := by
  obtain ⟨s1, s2, s3⟩ := go_step0 hk e
  rw [ec] at s1 s2 s3
  exact ⟨h.bel, h.res, h.box, h.row, h.fit, h.eE.trans s1, h.eC.trans s2, h.eL.trans s3⟩
/-- One more line: what it answered is laid into the box. -/
theorem PQ.next {w wr : World} {L : List ByteArray} {a : Option Addr} {k : Nat} {C C' : Cf} {vL vS : Value} {V : List Value} (h : PQ w wr L a k C) (hk : k < L.length) (e : lineE C (wordsB (gt L k)) = 0) (ec : lineC C (wordsB (gt L k)) = C') (hL : LvOwn w.heap.size wr vL C'.levels) (hS : ScOwn w.heap.size wr vS C'.schemas V) :
    PQ w ((((((wr.setCell ⟨w.heap.size + 1, 0, none⟩ (.int .i64 C'.total)).setCell ⟨w.heap.size + 1, 1, none⟩ (.int .i64 C'.period)).setCell ⟨w.heap.size + 1, 2, none⟩ (.int .i64 C'.perSeat)).setCell ⟨w.heap.size + 1, 3, none⟩ (.int .i64 C'.most)).setCell ⟨w.heap.size + 1, 4, none⟩ vL).setCell ⟨w.heap.size + 1, 5, none⟩ vS) L a (k + 1) C' := by
  obtain ⟨s1, s2, s3⟩ := go_step0 hk e
  have hf := fit_line h.fit e
  rw [ec] at s1 s2 s3 hf
  obtain ⟨vL0, vS0, V0, h1, h2, h3⟩ := h.box
  have kk : Kept (fun k => k = w.heap.size + 1) wr ((((((wr.setCell ⟨w.heap.size + 1, 0, none⟩ (.int .i64 C'.total)).setCell ⟨w.heap.size + 1, 1, none⟩ (.int .i64 C'.period)).setCell ⟨w.heap.size + 1, 2, none⟩ (.int .i64 C'.perSeat)).setCell ⟨w.heap.size + 1, 3, none⟩ (.int .i64 C'.most)).setCell ⟨w.heap.size + 1, 4, none⟩ vL).setCell ⟨w.heap.size + 1, 5, none⟩ vS) :=
    ((((((Kept.refl (fun k => k = w.heap.size + 1) wr).setCell ⟨w.heap.size + 1, 0, none⟩ _ (.inl rfl)).setCell ⟨w.heap.size + 1, 1, none⟩ _ (.inl rfl)).setCell ⟨w.heap.size + 1, 2, none⟩ _ (.inl rfl)).setCell ⟨w.heap.size + 1, 3, none⟩ _ (.inl rfl)).setCell ⟨w.heap.size + 1, 4, none⟩ _ (.inl rfl)).setCell ⟨w.heap.size + 1, 5, none⟩ _ (.inl rfl)
  have o : ∀ t, 26 ≠ t → Off t (fun k => k = w.heap.size + 1) wr := fun t ht => off_blk h1 ht
  exact ⟨h.bel.trans (kk.below h.bel.size (fun j hj => by omega)), h.res.kept kk (by omega),
    ⟨vL, vS, V, (((((h1.set 0 _).set 1 _).set 2 _).set 3 _).set 4 _).set 5 _, hL.off kk (o 39 (by decide)), hS.off kk (o 9 (by decide)) (o 42 (by decide)) (o 73 (by decide))⟩,
    h.row.kept kk (o 9 (by decide)), hf, h.eE.trans s1, h.eC.trans s2, h.eL.trans s3⟩
theorem Blk.six {w : World} {b : Nat} {v0 v1 v2 v3 v4 v5 : Value} (h : Blk w b 26 #[v0, v1, v2, v3, v4, v5]) :
    (w.cell? ⟨b, 0, none⟩ = some v0 ∧ w.cell? ⟨b, 1, none⟩ = some v1 ∧ w.cell? ⟨b, 2, none⟩ = some v2 ∧ w.cell? ⟨b, 3, none⟩ = some v3 ∧ w.cell? ⟨b, 4, none⟩ = some v4 ∧ w.cell? ⟨b, 5, none⟩ = some v5)
    ∧ w.frozen? ⟨b, 0, none⟩ = false ∧ w.frozen? ⟨b, 1, none⟩ = false ∧ w.frozen? ⟨b, 2, none⟩ = false ∧ w.frozen? ⟨b, 3, none⟩ = false ∧ w.frozen? ⟨b, 4, none⟩ = false ∧ w.frozen? ⟨b, 5, none⟩ = false :=
  ⟨⟨h.cellv 0 rfl, h.cellv 1 rfl, h.cellv 2 rfl, h.cellv 3 rfl, h.cellv 4 rfl, h.cellv 5 rfl⟩, h.frozen 0, h.frozen 1, h.frozen 2, h.frozen 3, h.frozen 4, h.frozen 5⟩

set_option maxRecDepth 20000 in
theorem rparse_long (s : ByteArray) (w : World) (hs : s.size ≤ 131072) (hl : 65536 < s.size) :
    Calls Tryz.prog 6 #[.string s] w fun e w' => ∃ v, e = .returned (.tuple #[v, .int .i64 3, .int .i64 0]) ∧ CfV w.heap.size w' v cf0 ∧ Below w.heap.size w w' := by
  go_enter Tryz.func6, Tryz.ntmps6
  go_upto_region 1 with fail
  generalize hw2 : World.alloc _ _ = w2
  have N0 : Hd (Blk w2 w.heap.size 26 #[.int .i64 0, .int .i64 0, .int .i64 0, .int .i64 0, .slice none 0 0, .slice none 0 0] ∧ Below w.heap.size w w2) := ⟨by rw [← hw2]; exact ⟨Blk.new w 26 _, (Below.refl _ _).alloc (Nat.le_refl _) _⟩⟩
  clear hw2
  obtain ⟨⟨r0, r1, r2, r3, r4, r5⟩, f0, f1, f2, f3, f4, f5⟩ := N0.out.1.six
  go_wp2_with fail
  refine bodyPost_ret (resP6 _ _ w.heap.size _ _ _ _ _ _ _ _ rfl rfl rfl ((((((N0.out.1.set 0 (.int .i64 0)).set 1 (.int .i64 0)).set 2 (.int .i64 0)).set 3 (.int .i64 0)).set 4 (.slice none 0 0)).set 5 (.slice none 0 0))) rfl ⟨_, rfl, cfv_zero _ _, ?_⟩
  exact (((((N0.out.2.setCell (p := ⟨w.heap.size, 0, none⟩) (Nat.le_refl _) _).setCell (p := ⟨w.heap.size, 1, none⟩) (Nat.le_refl _) _).setCell (p := ⟨w.heap.size, 2, none⟩) (Nat.le_refl _) _).setCell (p := ⟨w.heap.size, 3, none⟩) (Nat.le_refl _) _).setCell (p := ⟨w.heap.size, 4, none⟩) (Nat.le_refl _) _).setCell (p := ⟨w.heap.size, 5, none⟩) (Nat.le_refl _) _

set_option maxRecDepth 20000 in
set_option maxHeartbeats 4000000 in
theorem rparse_short (s : ByteArray) (w : World) (hl : s.size ≤ 65536) :
    Calls Tryz.prog 6 #[.string s] w fun e w' => ∃ v, e = .returned (.tuple #[v, .int .i64 (goE cf0 (linesB s)), .int .i64 (goL cf0 0 (linesB s) : Nat)]) ∧ CfV w.heap.size w' v (goC cf0 (linesB s)) ∧ Below w.heap.size w w' := by
  have RL := fun W => rlines_y s W (by omega)
  have hlen := lines_len s
  have hsz : Hd (∀ k, (gt (linesB s) k).size ≤ 65536) := ⟨fun k => by
    by_cases h : k < (linesB s).length
    · have := line_size (gt_mem h); omega
    · have e : gt (linesB s) k = ⟨#[]⟩ := by unfold gt; simp [List.getD, List.getElem?_eq_none (Nat.le_of_not_lt h)]
      rw [e]; exact Nat.zero_le _⟩
  generalize linesB s = L at *
  obtain ⟨n, hn⟩ : ∃ n, n = L.length := ⟨_, rfl⟩
  rw [← hn] at RL hlen
  have HN : Hd (n = L.length) := ⟨hn⟩
  clear hn
  go_enter Tryz.func6, Tryz.ntmps6
  go_upto_region 4 with fail
  generalize hw2 : World.alloc _ _ = w2
  have N0 : Hd (Blk w2 w.heap.size 26 #[.int .i64 0, .int .i64 0, .int .i64 0, .int .i64 0, .slice none 0 0, .slice none 0 0] ∧ Blk w2 (w.heap.size + 1) 26 #[.int .i64 0, .int .i64 0, .int .i64 0, .int .i64 0, .slice none 0 0, .slice none 0 0] ∧ Below w.heap.size w w2) := ⟨by
    rw [← hw2]
    have b1 : Below w.heap.size w (w.alloc (.cells #[.int .i64 0, .int .i64 0, .int .i64 0, .int .i64 0, .slice none 0 0, .slice none 0 0] 26)) := (Below.refl _ _).alloc (Nat.le_refl _) _
    have b2 : Below (w.alloc (.cells #[.int .i64 0, .int .i64 0, .int .i64 0, .int .i64 0, .slice none 0 0, .slice none 0 0] 26)).heap.size (w.alloc (.cells #[.int .i64 0, .int .i64 0, .int .i64 0, .int .i64 0, .slice none 0 0, .slice none 0 0] 26)) ((w.alloc (.cells #[.int .i64 0, .int .i64 0, .int .i64 0, .int .i64 0, .slice none 0 0, .slice none 0 0] 26)).alloc (.cells #[.int .i64 0, .int .i64 0, .int .i64 0, .int .i64 0, .slice none 0 0, .slice none 0 0] 26)) := (Below.refl _ _).alloc (Nat.le_refl _) _
    have n2 := Blk.new (w.alloc (.cells #[.int .i64 0, .int .i64 0, .int .i64 0, .int .i64 0, .slice none 0 0, .slice none 0 0] 26)) 26 #[.int .i64 0, .int .i64 0, .int .i64 0, .int .i64 0, .slice none 0 0, .slice none 0 0]
    have e2 : (w.alloc (.cells #[.int .i64 0, .int .i64 0, .int .i64 0, .int .i64 0, .slice none 0 0, .slice none 0 0] 26)).heap.size = w.heap.size + 1 := by simp
    rw [e2] at n2
    exact ⟨(Blk.new w 26 _).kept (Kept.of_below b2 (fun _ => False)) id, n2, b1.trans (b2.mono b1.size)⟩⟩
  clear hw2
  go_wp2_with fail
  go_at_call 14
  refine (RL _).mono ?_
  rintro e w3 ⟨a, c, rfl, r3, b3⟩
  have P0 : Hd (PQ w w3 L a 0 cf0) := ⟨by
    have kk : Kept (fun _ => False) w2 w3 := Kept.of_below b3 _
    have f : ∀ t, Off t (fun _ => False) w2 := fun _ _ _ _ _ => id
    exact ⟨N0.out.2.2.trans (b3.mono N0.out.2.2.size), N0.out.1.off kk (f _), ⟨_, _, [], N0.out.2.1.off kk (f _), World.ownsRow_nil _ _ _ _, ⟨rfl, World.ownsRow_nil _ _ _ _, fun _ h => absurd h (Nat.not_lt_zero _)⟩⟩, r3.mono (Nat.zero_le _), fit0, rfl, rfl, rfl⟩⟩
  clear RL r3 b3 N0
  go_wp2_with fail
  go_loopw [7, 8, 9, 10] (fun i u8 u9 u10 wr => ∃ (k : Nat) (C : Cf), k ≤ n ∧ i = .int .i64 k ∧ Hd (PQ w wr L a k C)) (fun i _ _ _ _ => n - (intOf i).toNat)
  case atStart => exact ⟨0, cf0, Nat.zero_le _, rfl, P0⟩
  case round =>
    obtain ⟨k, C, hk, rfl, hP⟩ := hrel
    clear P0
    by_cases hlt : k < n
    · have hkL : k < L.length := by rw [← HN.out]; exact hlt
      obtain ⟨b, off, rfl, hbl, hcs⟩ := hP.out.row.row (by omega)
      have hcell := hcs k hkL
      have hx := hsz.out k
      have HKL : Hd (k < L.length) := ⟨hkL⟩
      have HST : Hd (∀ wr, PQ w wr L (some ⟨b, off, none⟩) k C → lineE C (wordsB (gt L k)) = 0 → lineC C (wordsB (gt L k)) = C → PQ w wr L (some ⟨b, off, none⟩) (k + 1) C) := ⟨fun wr h e1 e2 => h.step hkL e1 e2⟩
      have HNX : Hd (∀ (wr : World) (C' : Cf) (vL vS : Value) (V : List Value), PQ w wr L (some ⟨b, off, none⟩) k C → lineE C (wordsB (gt L k)) = 0 → lineC C (wordsB (gt L k)) = C' → LvOwn w.heap.size wr vL C'.levels → ScOwn w.heap.size wr vS C'.schemas V → _) := ⟨fun wr C' vL vS V h e1 e2 h1 h2 => h.next hkL e1 e2 h1 h2⟩
      have HS1 : Hd (lineE C (wordsB (gt L k)) ≠ 0 → goE cf0 L = lineE C (wordsB (gt L k)) ∧ goC cf0 L = cf0 ∧ goL cf0 0 L = k + 1) := ⟨fun h => by
        obtain ⟨s1, s2, s3⟩ := go_step1 hkL h
        exact ⟨hP.out.eE.trans s1, hP.out.eC.trans s2, hP.out.eL.trans s3⟩⟩
      clear hcs hkL
      generalize gt L k = x at *
      have WY := fun W => rwords_ok x W (by omega)
      have wl := words_len x
      have ws6 := words_sh x hx
      have wne : ∀ y ∈ wordsB x, 0 < y.size := fun y hy => (words_mem hy).1
      generalize wordsB x = ws at *
      have i1 : (k : Int) < (n : Int) := by omega
      go_wp2_with fail
      cases ws with
      | nil =>
        go_at_call 15
        refine (WY _).mono ?_
        rintro e w4 ⟨a4, c4, rfl, r4, b4⟩
        have P4 : Hd (PQ w w4 L (some ⟨b, off, none⟩) (k + 1) C) := ⟨HST.out w4 (hP.out.grown b4) rfl rfl⟩
        clear b4 r4 HST HNX HS1 hP WY hcell wne ws6
        go_wp2_with fail
        go_roundw
        case rel => exact ⟨k + 1, C, by omega, by go_num, P4⟩
        case measure => simp [intOf]; omega
      | cons y r =>
        have h0 : 0 < y.size := wne y (List.mem_cons_self ..)
        have hy6 : y.size ≤ 65536 := ws6 0
        have hby := byte_at y 0 h0
        by_cases h35 : y[0] = 35
        · have hsil : silent (y :: r) = true := by show (y.data.toList.head? == some 35) = true; rw [List.head?_eq_getElem?, hby, h35]; rfl
          have e35 : ((y[0].toNat : Int) == 35) = true := by rw [h35]; rfl
          go_at_call 15
          refine (WY _).mono ?_
          rintro e w4 ⟨a4, c4, rfl, r4, b4⟩
          have P4 : Hd (PQ w w4 L (some ⟨b, off, none⟩) (k + 1) C) := ⟨HST.out w4 (hP.out.grown b4) (by unfold lineE; rw [hsil]; rfl) (by unfold lineC; rw [hsil]; rfl)⟩
          obtain ⟨b5, off5, rfl, hbl5, hcs5⟩ := r4 (by simp)
          have d0 : w4.cell? ⟨b5, off5, none⟩ = some (.string y) := hcs5 0 (by simp)
          rw [List.length_cons] at wl
          rw [List.length_cons]
          generalize r.length = m at *
          clear b4 r4 HST HNX HS1 hP WY hcell wne ws6 hsil h35 hby hcs5
          go_wp2_with fail
          go_roundw
          case rel => exact ⟨k + 1, C, by omega, by go_num, P4⟩
          case measure => simp [intOf]; omega
        · have hsil : silent (y :: r) = false := by
            show (y.data.toList.head? == some 35) = false
            rw [List.head?_eq_getElem?, hby]
            have : ¬ (some y[0] == some 35) = true := by simpa using h35
            simpa using this
          have e35 : ((y[0].toNat : Int) == 35) = false := by
            cases h : ((y[0].toNat : Int) == 35) with
            | false => rfl
            | true => exact absurd (UInt8.toNat_inj.1 (by have := eq_of_beq h; simp; omega)) h35
          have le : lineE C (y :: r) = tellE C y r := by unfold lineE; rw [hsil]; rfl
          have lc : lineC C (y :: r) = tellC C y r := by unfold lineC; rw [hsil]; rfl
          rw [le, lc] at HNX
          rw [le] at HS1
          go_at_call 15
          refine (WY _).mono ?_
          rintro e w4 ⟨a4, c4, rfl, r4, b4⟩
          have P4 : Hd (PQ w w4 L (some ⟨b, off, none⟩) k C) := ⟨hP.out.grown b4⟩
          obtain ⟨b5, off5, rfl, hbl5, hcs5⟩ := r4 (by simp)
          have d0 : w4.cell? ⟨b5, off5, none⟩ = some (.string y) := hcs5 0 (by simp)
          obtain ⟨vL, vS, V, hbx, hL, hS⟩ := P4.out.box
          have LN := rline_ok (B := w.heap.size) (some ⟨b5, off5, none⟩) c4 (y :: r) w4 C _ ⟨vL, vS, V, rfl, hL, hS⟩ r4 (by simp) ws6 P4.out.fit P4.out.bel.size
          obtain ⟨aL, cL, rfl⟩ := own_form hL
          obtain ⟨aS, cS, rfl⟩ := own_form hS.own
          have g0 : gt (y :: r) 0 = y := rfl
          rw [g0, List.tail_cons] at LN
          obtain ⟨⟨y0, y1, y2, y3, y4, y5⟩, z0, z1, z2, z3, z4, z5⟩ := hbx.six
          rw [List.length_cons] at wl LN
          rw [List.length_cons]
          generalize tellE C y r = E at *
          generalize tellC C y r = D at *
          generalize r.length = m at *
          have HNX2 := HNX
          clear b4 r4 HST HNX hP WY hcell wne ws6 hsil h35 hby hcs5 le lc g0 hL hS hbx
          go_wp2_with fail
          go_at_call 16
          refine LN.mono ?_
          clear LN
          rintro e w5 ⟨v5, rfl, b5', ⟨x0, x1, x2, x3, a1, n1, c1, a2, n2, c2, rfl⟩, cf⟩
          have AL : Below w5.heap.size w5 (w5.alloc (.cells #[.int .i64 x0, .int .i64 x1, .int .i64 x2, .int .i64 x3, .slice a1 n1 c1, .slice a2 n2 c2] 26)) := (Below.refl _ _).alloc (Nat.le_refl _) _
          have NB := Blk.new w5 26 #[.int .i64 x0, .int .i64 x1, .int .i64 x2, .int .i64 x3, .slice a1 n1 c1, .slice a2 n2 c2]
          have P6 : Hd (PQ w (w5.alloc (.cells #[.int .i64 x0, .int .i64 x1, .int .i64 x2, .int .i64 x3, .slice a1 n1 c1, .slice a2 n2 c2] 26)) L (some ⟨b, off, none⟩) k C) := ⟨(P4.out.grown b5').grown AL⟩
          have HC : Hd (E = 0 → CfV w.heap.size (w5.alloc (.cells #[.int .i64 x0, .int .i64 x1, .int .i64 x2, .int .i64 x3, .slice a1 n1 c1, .slice a2 n2 c2] 26)) (.agg #[.int .i64 x0, .int .i64 x1, .int .i64 x2, .int .i64 x3, .slice a1 n1 c1, .slice a2 n2 c2]) D) := ⟨fun h => (cf h).off (Kept.of_below AL (fun _ => False)) (fun _ _ _ _ => id) (fun _ _ _ _ => id) (fun _ _ _ _ => id) (fun _ _ _ _ => id)⟩
          clear cf AL b5' P4 d0 y0 y1 y2 y3 y4 y5 z0 z1 z2 z3 z4 z5
          go_upto_region 11 with fail
          generalize w5.alloc _ = w6 at *
          generalize w5.heap.size = g9 at *
          obtain ⟨⟨v0, v1, v2, v3, v4, v5⟩, -⟩ := NB.six
          by_cases hE : E = 0
          · subst hE
            have cf := HC.out rfl
            obtain ⟨vL', vS', V', e', hL', hS'⟩ := cf
            have e2 : x0 = D.total ∧ x1 = D.period ∧ x2 = D.perSeat ∧ x3 = D.most ∧ vL' = .slice a1 n1 c1 ∧ vS' = .slice a2 n2 c2 := by
              injection e' with e'
              simp at e'
              exact ⟨e'.1, e'.2.1, e'.2.2.1, e'.2.2.2.1, e'.2.2.2.2.1.symm, e'.2.2.2.2.2.symm⟩
            obtain ⟨rfl, rfl, rfl, rfl, rfl, rfl⟩ := e2
            have P7 : Hd _ := ⟨HNX2.out w6 D _ _ V' P6.out rfl rfl hL' hS'⟩
            obtain ⟨vL, vS, V, hbx, -, -⟩ := P6.out.box
            obtain ⟨⟨y0, y1, y2, y3, y4, y5⟩, z0, z1, z2, z3, z4, z5⟩ := hbx.six
            clear hbx HC HNX2 HS1 hL' hS' e' NB
            go_wp2_with fail
            go_roundw
            case rel => exact ⟨k + 1, D, by omega, by go_num, P7⟩
            case measure => simp [intOf]; omega
          · have e0 : (E != 0) = true := by simpa using hE
            obtain ⟨S1, S2, S3⟩ := HS1.out hE
            have HR : Hd (goE cf0 L = E ∧ goC cf0 L = cf0 ∧ goL cf0 0 L = k + 1) := ⟨S1, S2, S3⟩
            obtain ⟨⟨r0, r1, r2, r3, r4, r5⟩, f0, f1, f2, f3, f4, f5⟩ := P6.out.res.six
            clear S1 S2 S3 HS1 HC HNX2 hE NB v0 v1 v2 v3 v4 v5
            go_wp2_with fail
            refine bodyPost_ret (resP6 _ _ w.heap.size _ _ _ _ _ _ _ _ rfl rfl rfl ((((((P6.out.res.set 0 (.int .i64 0)).set 1 (.int .i64 0)).set 2 (.int .i64 0)).set 3 (.int .i64 0)).set 4 (.slice none 0 0)).set 5 (.slice none 0 0))) rfl ⟨_, by rw [HR.out.1, HR.out.2.2]; rfl, by rw [HR.out.2.1]; exact cfv_zero _ _, ?_⟩
            exact (((((P6.out.bel.setCell (p := ⟨w.heap.size, 0, none⟩) (Nat.le_refl _) _).setCell (p := ⟨w.heap.size, 1, none⟩) (Nat.le_refl _) _).setCell (p := ⟨w.heap.size, 2, none⟩) (Nat.le_refl _) _).setCell (p := ⟨w.heap.size, 3, none⟩) (Nat.le_refl _) _).setCell (p := ⟨w.heap.size, 4, none⟩) (Nat.le_refl _) _).setCell (p := ⟨w.heap.size, 5, none⟩) (Nat.le_refl _) _
    · obtain rfl : k = n := by omega
      have hd : L.drop k = [] := List.drop_eq_nil_of_le (by rw [← HN.out]; exact Nat.le_refl _)
      have HQ : Hd (goE cf0 L = 0 ∧ goL cf0 0 L = 0 ∧ goC cf0 L = C) := ⟨by rw [hP.out.eE, hd]; rfl, by rw [hP.out.eL, hd]; rfl, by rw [hP.out.eC, hd]; rfl⟩
      obtain ⟨vL, vS, V, hbx, hL, hS⟩ := hP.out.box
      obtain ⟨aL, cL, rfl⟩ := own_form hL
      obtain ⟨aS, cS, rfl⟩ := own_form hS.own
      obtain ⟨⟨y0, y1, y2, y3, y4, y5⟩, -⟩ := hbx.six
      obtain ⟨⟨r0, r1, r2, r3, r4, r5⟩, f0, f1, f2, f3, f4, f5⟩ := hP.out.res.six
      have HX : Hd (LvOwn w.heap.size wr (.slice aL C.levels.length cL) C.levels ∧ ScOwn w.heap.size wr (.slice aS C.schemas.length cS) C.schemas V) := ⟨hL, hS⟩
      clear hbx hL hS hd
      go_wp2_with fail
      have B6 := ((((((hP.out.res.set 0 (.int .i64 C.total)).set 1 (.int .i64 C.period)).set 2 (.int .i64 C.perSeat)).set 3 (.int .i64 C.most)).set 4 (.slice aL C.levels.length cL)).set 5 (.slice aS C.schemas.length cS))
      have K6 : Kept (fun k => k = w.heap.size) wr ((((((wr.setCell ⟨w.heap.size, 0, none⟩ (.int .i64 C.total)).setCell ⟨w.heap.size, 1, none⟩ (.int .i64 C.period)).setCell ⟨w.heap.size, 2, none⟩ (.int .i64 C.perSeat)).setCell ⟨w.heap.size, 3, none⟩ (.int .i64 C.most)).setCell ⟨w.heap.size, 4, none⟩ (.slice aL C.levels.length cL)).setCell ⟨w.heap.size, 5, none⟩ (.slice aS C.schemas.length cS)) :=
        ((((((Kept.refl (fun k => k = w.heap.size) wr).setCell ⟨w.heap.size, 0, none⟩ _ (.inl rfl)).setCell ⟨w.heap.size, 1, none⟩ _ (.inl rfl)).setCell ⟨w.heap.size, 2, none⟩ _ (.inl rfl)).setCell ⟨w.heap.size, 3, none⟩ _ (.inl rfl)).setCell ⟨w.heap.size, 4, none⟩ _ (.inl rfl)).setCell ⟨w.heap.size, 5, none⟩ _ (.inl rfl)
      have o : ∀ t, 26 ≠ t → Off t (fun k => k = w.heap.size) wr := fun t ht => off_blk hP.out.res ht
      refine bodyPost_ret (resP6 _ _ w.heap.size _ _ _ _ _ _ _ _ rfl rfl rfl B6) rfl ⟨_, by rw [HQ.out.1, HQ.out.2.1]; rfl, ?_, ?_⟩
      · rw [HQ.out.2.2]
        exact ⟨_, _, V, rfl, HX.out.1.off K6 (o 39 (by decide)), HX.out.2.off K6 (o 9 (by decide)) (o 42 (by decide)) (o 73 (by decide))⟩
      · exact hP.out.bel.trans (K6.below (Nat.le_of_lt hP.out.res.lt) (fun j hj => by rw [hj]; exact Nat.le_refl _))

theorem rparse_ok (s : ByteArray) (w : World) (hs : s.size ≤ 131072) :
    Calls Tryz.prog 6 #[.string s] w fun e w' => ∃ v, e = .returned (.tuple #[v, .int .i64 (parE s), .int .i64 (parL s : Nat)]) ∧ CfV w.heap.size w' v (parC s) ∧ Below w.heap.size w w' := by
  by_cases h : 65536 < s.size
  · have := rparse_long s w hs h
    unfold parE parL parC
    rw [if_pos h, if_pos h, if_pos h]
    exact this
  · have := rparse_short s w (by omega)
    unfold parE parL parC
    rw [if_neg h, if_neg h, if_neg h]
    exact this
end Go.Proofs.YtaodckojinbdfaaGreatDoor

namespace Go.Proofs.YtaodckojinbdfaaGreatDoor
open Go.RowKit

theorem code_err (e : Int) (l : Nat) (w : World) (he : ET w) (h0 : e ≠ 0) : Calls Tryz.prog 8 #[errV e l] w fun r w' => r = .returned (.int .i64 e) ∧ Below w.heap.size w w' := by
  have h := code_ok (.inl e) [⟨(l : Int), ⟨#[]⟩⟩] w he
  unfold errV
  rw [if_neg h0]
  exact h
theorem line_err (e : Int) (l : Nat) (w : World) (he : ET w) (h0 : e ≠ 0) : Calls Tryz.prog 9 #[errV e l] w fun r w' => r = .returned (.int .i64 (l : Int)) ∧ Below w.heap.size w w' := by
  have h := line_ok (.inl e) [⟨(l : Int), ⟨#[]⟩⟩] w he
  have hn : (near (fun x _ => x != 0) [⟨(l : Int), ⟨#[]⟩⟩]).line = (l : Int) := by
    unfold near
    by_cases hl : (l : Int) = 0
    · rw [if_neg (by simp [hl])]
      unfold near
      exact hl.symm
    · rw [if_pos (by simpa using hl)]
  rw [hn] at h
  unfold errV
  rw [if_neg h0]
  exact h
theorem err_some {e : Int} (l : Nat) (h0 : e ≠ 0) : ∃ u, errV e l = .iface 56 u := ⟨.agg #[.int .i64 (l : Int), .string ⟨#[]⟩, .iface 34 (.int .i64 e)], by unfold errV; rw [if_neg h0]; rfl⟩
theorem go_none : ∀ (L : List ByteArray) (C : Cf), goE C L ≠ 0 → goC C L = cf0
  | [], C, h => absurd rfl h
  | l :: r, C, h => by
    unfold goE at h
    unfold goC
    by_cases e : lineE C (wordsB l) = 0
    · rw [if_pos e] at h ⊢
      exact go_none r _ h
    · rw [if_neg e]
theorem par_none {s : ByteArray} (h : parE s ≠ 0) : parC s = cf0 := by
  unfold parE at h
  unfold parC
  by_cases e : 65536 < s.size
  · rw [if_pos e]
  · rw [if_neg e] at h ⊢
    exact go_none _ _ h

set_option maxRecDepth 20000 in
theorem reads_all (s : ByteArray) (w : World) (hs : s.size ≤ maxLen) (he : ET w) :
    Calls Tryz.prog 3 #[.string s] w fun e w' => e = .returned (.bool true) ∧ Below w.heap.size w w' := by
  have AW := awake_any w
  have hsz : s.size ≤ 9223372036854775807 := by unfold maxLen at hs; omega
  clear hs
  by_cases h17 : 131072 < s.size
  · clear he
    go_enter Tryz.func3, Tryz.ntmps3
    go_wp2_with (go_at_call 4; refine AW.mono ?_; rintro e w1 ⟨rfl, b1⟩)
    go_ret
    exact ⟨rfl, b1⟩
  have PP := fun W => parse_ok s W hsz
  have RP := fun W => rparse_ok s W (by omega)
  have HN : Hd (parE s ≠ 0 → parC s = cf0) := ⟨par_none⟩
  have HE : Hd (ET w) := ⟨he⟩
  generalize parE s = E at *
  generalize parL s = l at *
  generalize parC s = C at *
  clear he hsz
  go_enter Tryz.func3, Tryz.ntmps3
  go_wp2_with fail
  go_at_call 4
  refine AW.mono ?_
  rintro e w1 ⟨rfl, b1⟩
  go_wp2_with fail
  go_at_call 5
  refine (PP _).mono ?_
  rintro e w2 ⟨v2, rfl, cf2, b2⟩
  obtain ⟨x0, x1, x2, x3, a1, n1, c1, a2, n2, c2, rfl⟩ := cf2.six
  obtain ⟨w3, hw3⟩ : ∃ w3, w3 = w2.alloc (.cells #[.int .i64 x0, .int .i64 x1, .int .i64 x2, .int .i64 x3, .slice a1 n1 c1, .slice a2 n2 c2] 26) := ⟨_, rfl⟩
  have AL : Below w2.heap.size w2 w3 := by rw [hw3]; exact (Below.refl _ _).alloc (Nat.le_refl _) _
  have N3 : Blk w3 w2.heap.size 26 #[.int .i64 x0, .int .i64 x1, .int .i64 x2, .int .i64 x3, .slice a1 n1 c1, .slice a2 n2 c2] := by rw [hw3]; exact Blk.new w2 26 _
  have B3 : Hd (Below w.heap.size w w3) := ⟨(b1.trans (b2.mono b1.size)).trans (AL.mono (Nat.le_trans b1.size b2.size))⟩
  have C3 : CfV w1.heap.size w3 (.agg #[.int .i64 x0, .int .i64 x1, .int .i64 x2, .int .i64 x3, .slice a1 n1 c1, .slice a2 n2 c2]) C := cf2.off (Kept.of_below AL (fun _ => False)) (fun _ _ _ _ => id) (fun _ _ _ _ => id) (fun _ _ _ _ => id) (fun _ _ _ _ => id)
  generalize hv : errV E l = ve
  have HV : Hd (errV E l = ve) := ⟨hv⟩
  clear hv cf2 b1 b2 AL PP AW
  go_wp2_with fail
  rw [← hw3]
  clear hw3
  generalize w2.heap.size = g3 at *
  go_at_call 6
  refine (RP _).mono ?_
  rintro e w4 ⟨v4, rfl, cf4, b4⟩
  obtain ⟨z0, z1, z2, z3, d1, k1, e1, d2, k2, e2, rfl⟩ := cf4.six
  obtain ⟨w5, hw5⟩ : ∃ w5, w5 = w4.alloc (.cells #[.int .i64 z0, .int .i64 z1, .int .i64 z2, .int .i64 z3, .slice d1 k1 e1, .slice d2 k2 e2] 26) := ⟨_, rfl⟩
  have AL : Below w4.heap.size w4 w5 := by rw [hw5]; exact (Below.refl _ _).alloc (Nat.le_refl _) _
  have N5 : Blk w5 w4.heap.size 26 #[.int .i64 z0, .int .i64 z1, .int .i64 z2, .int .i64 z3, .slice d1 k1 e1, .slice d2 k2 e2] := by rw [hw5]; exact Blk.new w4 26 _
  have M3 : Blk w5 g3 26 #[.int .i64 x0, .int .i64 x1, .int .i64 x2, .int .i64 x3, .slice a1 n1 c1, .slice a2 n2 c2] := (N3.kept (Kept.of_below b4 (fun _ => False)) id).kept (Kept.of_below AL (fun _ => False)) id
  have B5 : Hd (Below w.heap.size w w5) := ⟨(B3.out.trans (b4.mono B3.out.size)).trans (AL.mono (Nat.le_trans B3.out.size b4.size))⟩
  have C5 : CfV w3.heap.size w5 (.agg #[.int .i64 z0, .int .i64 z1, .int .i64 z2, .int .i64 z3, .slice d1 k1 e1, .slice d2 k2 e2]) C := cf4.off (Kept.of_below AL (fun _ => False)) (fun _ _ _ _ => id) (fun _ _ _ _ => id) (fun _ _ _ _ => id) (fun _ _ _ _ => id)
  have C3' : CfV w1.heap.size w5 (.agg #[.int .i64 x0, .int .i64 x1, .int .i64 x2, .int .i64 x3, .slice a1 n1 c1, .slice a2 n2 c2]) C := (C3.off (Kept.of_below b4 (fun _ => False)) (fun _ _ _ _ => id) (fun _ _ _ _ => id) (fun _ _ _ _ => id) (fun _ _ _ _ => id)).off (Kept.of_below AL (fun _ => False)) (fun _ _ _ _ => id) (fun _ _ _ _ => id) (fun _ _ _ _ => id) (fun _ _ _ _ => id)
  clear cf4 b4 AL RP N3 C3 B3
  by_cases hE : E = 0
  · subst hE
    obtain rfl : ve = .nilIface := HV.out.symm
    obtain ⟨⟨y0, y1, y2, y3, y4, y5⟩, -⟩ := M3.six
    obtain ⟨⟨t0, t1, t2, t3, t4, t5⟩, -⟩ := N5.six
    have SC := same_cf C3' C5
    clear HV HN M3 N5 C3' C5
    go_upto_region 7 with fail
    rw [← hw5]
    clear hw5
    generalize w4.heap.size = g5 at *
    go_wp2_with (go_at_call 7; refine SC.mono ?_; rintro e w6 ⟨rfl, b6⟩)
    go_ret
    exact ⟨rfl, B5.out.trans (b6.mono B5.out.size)⟩
  · obtain ⟨u1, hu1⟩ := err_some l hE
    have LE := fun W h => line_err E l W h hE
    have CE := fun W h => code_err E l W h hE
    rw [HV.out] at LE CE
    obtain rfl : ve = .iface 56 u1 := HV.out.symm.trans hu1
    have hC := HN.out hE
    subst hC
    have e0 : (E == 0) = false := by simpa using hE
    have EW : Hd (∀ w', Below w.heap.size w w' → ET w') := ⟨fun w' h => HE.out.stays h⟩
    have HC : Hd (CfV w1.heap.size w5 (.agg #[.int .i64 x0, .int .i64 x1, .int .i64 x2, .int .i64 x3, .slice a1 n1 c1, .slice a2 n2 c2]) cf0) := ⟨C3'⟩
    clear HV HN hu1 hE C5 C3' N5
    go_upto_region 7 with fail
    rw [← hw5]
    clear hw5
    generalize w4.heap.size = g5 at *
    go_wp2_with fail
    go_at_call 8
    refine (CE _ (EW.out _ B5.out)).mono ?_
    rintro e w7 ⟨rfl, b7⟩
    have B7 : Hd (Below w.heap.size w w7) := ⟨B5.out.trans (b7.mono B5.out.size)⟩
    have M7 := M3.kept (Kept.of_below b7 (fun _ => False)) id
    have C7 : Hd (CfV w1.heap.size w7 (.agg #[.int .i64 x0, .int .i64 x1, .int .i64 x2, .int .i64 x3, .slice a1 n1 c1, .slice a2 n2 c2]) cf0) := ⟨HC.out.off (Kept.of_below b7 (fun _ => False)) (fun _ _ _ _ => id) (fun _ _ _ _ => id) (fun _ _ _ _ => id) (fun _ _ _ _ => id)⟩
    clear b7 B5 M3 HC CE
    have ee : (E == E) = true := by simp
    go_wp2_with fail
    go_at_call 9
    refine (LE _ (EW.out _ B7.out)).mono ?_
    rintro e w8 ⟨rfl, b8⟩
    have B8 : Hd (Below w.heap.size w w8) := ⟨B7.out.trans (b8.mono B7.out.size)⟩
    have M8 := M7.kept (Kept.of_below b8 (fun _ => False)) id
    have C8 := C7.out.off (Kept.of_below b8 (fun _ => False)) (fun _ _ _ _ => id) (fun _ _ _ _ => id) (fun _ _ _ _ => id) (fun _ _ _ _ => id)
    have SC := same_cf C8 (cfv_zero w1.heap.size w8)
    obtain ⟨⟨y0, y1, y2, y3, y4, y5⟩, -⟩ := M8.six
    clear b8 B7 M7 M8 C7 C8 LE
    go_wp2_with (go_at_call 7; refine SC.mono ?_; rintro e w9 ⟨rfl, b9⟩)
    go_ret
    exact ⟨rfl, B8.out.trans (b9.mono B8.out.size)⟩
end Go.Proofs.YtaodckojinbdfaaGreatDoor
