/-
  What 'lackingNumber' and 'lackingPart' of 'rules' answer.
  'Of' of the program's faults.
-/
import Derived.Test.YtijjpblmnlednaaGreatDoorE32
import Derived.Test.YtijjpblmnlednaaGreatDoorE9
import Derived.WalkKit
namespace Go.Proofs.YtijjpblmnlednaaGreatDoor
open Go.RowKit
set_option maxRecDepth 20000 in
theorem lackN_ok (v : Value) (C : Cf) (w : World) (h : CfR w v C) : Calls Tryz.prog 29 #[v] w fun e w' => e = .returned (.string (lackN C)) ∧ Below w.heap.size w w' := by
  obtain ⟨aL, cL, aS, cS, V, rfl, -⟩ := h.ex
  have AL := alloc_below w (.cells #[.int .i64 C.total, .int .i64 C.period, .int .i64 C.perSeat, .int .i64 C.most, .slice aL C.levels.length cL, .slice aS C.schemas.length cS] 25)
  have NB := Blk.new w 25 #[.int .i64 C.total, .int .i64 C.period, .int .i64 C.perSeat, .int .i64 C.most, .slice aL C.levels.length cL, .slice aS C.schemas.length cS]
  have c0 := NB.cellv (v := .int .i64 C.total) 0 rfl
  have c1 := NB.cellv (v := .int .i64 C.period) 1 rfl
  have c2 := NB.cellv (v := .int .i64 C.perSeat) 2 rfl
  have HE : Hd (lackN C = if C.total = 0 then tTotal else if C.period = 0 then tPeriod else if C.perSeat = 0 then tSeats else ⟨#[]⟩) := ⟨rfl⟩
  generalize lackN C = R at *
  clear NB h
  generalize C.levels.length = n at *
  generalize C.schemas.length = m at *
  generalize C.total = x0 at *
  generalize C.period = x1 at *
  generalize C.perSeat = x2 at *
  generalize C.most = x3 at *
  go_enter Tryz.func29, Tryz.ntmps29
  go_upto_region 1 with fail
  generalize w.alloc _ = w1 at *
  by_cases h0 : x0 = 0
  · have q0 : (x0 == 0) = true := by simp [h0]
    have HR : Hd (R = tTotal) := ⟨by rw [HE.out, if_pos h0]⟩
    clear HE h0
    go_wp2_with fail
    go_ret
    exact ⟨by rw [HR.out]; rfl, AL⟩
  have q0 : (x0 == 0) = false := by simpa using h0
  by_cases h1 : x1 = 0
  · have q1 : (x1 == 0) = true := by simp [h1]
    have HR : Hd (R = tPeriod) := ⟨by rw [HE.out, if_neg h0, if_pos h1]⟩
    clear HE h0 h1
    go_wp2_with fail
    go_ret
    exact ⟨by rw [HR.out]; rfl, AL⟩
  have q1 : (x1 == 0) = false := by simpa using h1
  by_cases h2 : x2 = 0
  · have q2 : (x2 == 0) = true := by simp [h2]
    have HR : Hd (R = tSeats) := ⟨by rw [HE.out, if_neg h0, if_neg h1, if_pos h2]⟩
    clear HE h0 h1 h2
    go_wp2_with fail
    go_ret
    exact ⟨by rw [HR.out]; rfl, AL⟩
  have q2 : (x2 == 0) = false := by simpa using h2
  have HR : Hd (R = ⟨#[]⟩) := ⟨by rw [HE.out, if_neg h0, if_neg h1, if_neg h2]⟩
  clear HE h0 h1 h2
  go_wp2_with fail
  go_ret
  exact ⟨by rw [HR.out]; rfl, AL⟩

/-- The box of a configuration, and what else is kept. -/
theorem two_row (w : World) (x y : ByteArray) : (w.alloc (.cells #[.string x, .string y] 9)).cell? ⟨w.heap.size, 0, none⟩ = some (.string x) ∧ (w.alloc (.cells #[.string x, .string y] 9)).cell? ⟨w.heap.size, 1, none⟩ = some (.string y) :=
  ⟨(Blk.new w 9 #[.string x, .string y]).cellv 0 rfl, (Blk.new w 9 #[.string x, .string y]).cellv 1 rfl⟩

set_option maxRecDepth 20000 in
set_option maxHeartbeats 4000000 in
theorem lackP_ok (v : Value) (C : Cf) (w : World) (h : CfR w v C) (hl : C.levels.length ≤ 65536) (hs : C.schemas.length ≤ 65536) : Calls Tryz.prog 34 #[v] w fun e w' => e = .returned (.string (lackP C)) ∧ Below w.heap.size w w' := by
  obtain ⟨aL, cL, aS, cS, V, rfl, -, -, hLv, hV, hSc, -⟩ := h.ex
  have LE : Hd (∀ W, Below w.heap.size w W → Calls Tryz.prog 65 #[.slice aL C.levels.length cL, .string tExempt] W fun e w' => e = .returned (.bool (anyL C.levels tExempt)) ∧ Below W.heap.size W w') := ⟨fun W b => rhasLv_ok aL cL C.levels tExempt W (hLv.carry b) hl⟩
  have LC : Hd (∀ W, Below w.heap.size w W → Calls Tryz.prog 65 #[.slice aL C.levels.length cL, .string tCatch] W fun e w' => e = .returned (.bool (anyL C.levels tCatch)) ∧ Below W.heap.size W w') := ⟨fun W b => rhasLv_ok aL cL C.levels tCatch W (hLv.carry b) hl⟩
  have SE : Hd (∀ W, Below w.heap.size w W → Calls Tryz.prog 67 #[.slice aS C.schemas.length cS, .string tExempt] W fun e w' => e = .returned (.bool (anyS C.schemas tExempt)) ∧ Below W.heap.size W w') := ⟨fun W b => rhasSc_ok aS cS C.schemas V tExempt W (hSc.carry b) hV hs⟩
  have SC : Hd (∀ W, Below w.heap.size w W → Calls Tryz.prog 67 #[.slice aS C.schemas.length cS, .string tCatch] W fun e w' => e = .returned (.bool (anyS C.schemas tCatch)) ∧ Below W.heap.size W w') := ⟨fun W b => rhasSc_ok aS cS C.schemas V tCatch W (hSc.carry b) hV hs⟩
  have T1 := fun W => lvText_ok tExempt W (by decide)
  have T2 := fun W => lvText_ok tCatch W (by decide)
  have T3 := fun W => scText_ok tExempt W (by decide)
  have T4 := fun W => scText_ok tCatch W (by decide)
  have AL := alloc_below w (.cells #[.int .i64 C.total, .int .i64 C.period, .int .i64 C.perSeat, .int .i64 C.most, .slice aL C.levels.length cL, .slice aS C.schemas.length cS] 25)
  have NB := Blk.new w 25 #[.int .i64 C.total, .int .i64 C.period, .int .i64 C.perSeat, .int .i64 C.most, .slice aL C.levels.length cL, .slice aS C.schemas.length cS]
  have HE : Hd (lackP C = if anyL C.levels tExempt then if anyL C.levels tCatch then if anyS C.schemas tExempt then if anyS C.schemas tCatch then ⟨#[]⟩ else scT tCatch else scT tExempt else lvT tCatch else lvT tExempt) := ⟨rfl⟩
  generalize lackP C = R at *
  generalize lvT tExempt = r1 at *
  generalize lvT tCatch = r2 at *
  generalize scT tExempt = r3 at *
  generalize scT tCatch = r4 at *
  clear h hl hs hLv hV hSc
  generalize anyL C.levels tExempt = y1 at *
  generalize anyL C.levels tCatch = y2 at *
  generalize anyS C.schemas tExempt = y3 at *
  generalize anyS C.schemas tCatch = y4 at *
  generalize C.levels.length = n at *
  generalize C.schemas.length = m at *
  generalize C.total = x0 at *
  generalize C.period = x1 at *
  generalize C.perSeat = x2 at *
  generalize C.most = x3 at *
  unfold tExempt at LE SE T1 T3
  unfold tCatch at LC SC T2 T4
  go_enter Tryz.func34, Tryz.ntmps34
  go_upto_region 1 with fail
  generalize w.alloc _ = w1 at *
  generalize hgc : w.heap.size = gc at NB ⊢
  have AB := alloc_below w1 (.cells #[.string ⟨#[101, 120, 101, 109, 112, 116]⟩, .string ⟨#[99, 97, 116, 99, 104, 45, 97, 108, 108]⟩] 9)
  have B2 : Below w.heap.size w (w1.alloc (.cells #[.string ⟨#[101, 120, 101, 109, 112, 116]⟩, .string ⟨#[99, 97, 116, 99, 104, 45, 97, 108, 108]⟩] 9)) := AL.trans (AB.mono AL.size)
  have N2 := NB.kept (Kept.of_below AB (fun _ => False)) id
  have G2 := Blk.new w1 9 #[.string ⟨#[101, 120, 101, 109, 112, 116]⟩, .string ⟨#[99, 97, 116, 99, 104, 45, 97, 108, 108]⟩]
  clear AB AL NB
  go_wp2_with fail
  generalize w1.alloc _ = w2 at *
  generalize w1.heap.size = g1 at *
  refine wp_loop_rounds 3 ?_
  rw [rounds_succ]
  have c4 := N2.cellv (v := .slice aL n cL) 4 rfl
  have g0 := G2.cellv (v := .string ⟨#[101, 120, 101, 109, 112, 116]⟩) 0 rfl
  have P := LE.out w2 B2
  go_wp2_with fail
  go_at_call 65
  refine P.mono ?_
  rintro e w3 ⟨rfl, b3⟩
  have B3 : Below w.heap.size w w3 := B2.trans (b3.mono B2.size)
  have N3 := N2.kept (Kept.of_below b3 (fun _ => False)) id
  have G3 := G2.kept (Kept.of_below b3 (fun _ => False)) id
  clear P b3 c4 g0 B2 N2 G2
  by_cases hy : y1 = false
  · subst hy
    go_wp2_with (go_at_call 31; refine (T1 _).mono ?_; rintro e w' ⟨rfl, hw⟩; obtain rfl := hw.symm)
    go_ret
    exact ⟨by rw [HE.out]; rfl, B3⟩
  have hy : y1 = true := by simpa using hy
  subst hy
  go_wp2_with fail
  rw [rounds_succ]
  have c4 := N3.cellv (v := .slice aL n cL) 4 rfl
  have g0 := G3.cellv (v := .string ⟨#[99, 97, 116, 99, 104, 45, 97, 108, 108]⟩) 1 rfl
  have P := LC.out w3 B3
  go_wp2_with fail
  go_at_call 65
  refine P.mono ?_
  rintro e w4 ⟨rfl, b4⟩
  have B4 : Below w.heap.size w w4 := B3.trans (b4.mono B3.size)
  have N4 := N3.kept (Kept.of_below b4 (fun _ => False)) id
  have G4 := G3.kept (Kept.of_below b4 (fun _ => False)) id
  clear P b4 c4 g0 B3 N3 G3
  by_cases hy : y2 = false
  · subst hy
    go_wp2_with (go_at_call 31; refine (T2 _).mono ?_; rintro e w' ⟨rfl, hw⟩; obtain rfl := hw.symm)
    go_ret
    exact ⟨by rw [HE.out]; rfl, B4⟩
  have hy : y2 = true := by simpa using hy
  subst hy
  go_wp2_with fail
  rw [rounds_succ]
  have AB := alloc_below w4 (.cells #[.string ⟨#[101, 120, 101, 109, 112, 116]⟩, .string ⟨#[99, 97, 116, 99, 104, 45, 97, 108, 108]⟩] 9)
  have B5 : Below w.heap.size w (w4.alloc (.cells #[.string ⟨#[101, 120, 101, 109, 112, 116]⟩, .string ⟨#[99, 97, 116, 99, 104, 45, 97, 108, 108]⟩] 9)) := B4.trans (AB.mono B4.size)
  have N5 := N4.kept (Kept.of_below AB (fun _ => False)) id
  have G5 := Blk.new w4 9 #[.string ⟨#[101, 120, 101, 109, 112, 116]⟩, .string ⟨#[99, 97, 116, 99, 104, 45, 97, 108, 108]⟩]
  clear AB B4 N4 G4
  go_wp2_with fail
  generalize w4.alloc _ = w5 at *
  generalize w4.heap.size = g2 at *
  refine wp_loop_rounds 3 ?_
  rw [rounds_succ]
  have c4 := N5.cellv (v := .slice aS m cS) 5 rfl
  have g0 := G5.cellv (v := .string ⟨#[101, 120, 101, 109, 112, 116]⟩) 0 rfl
  have P := SE.out w5 B5
  go_wp2_with fail
  go_at_call 67
  refine P.mono ?_
  rintro e w6 ⟨rfl, b6⟩
  have B6 : Below w.heap.size w w6 := B5.trans (b6.mono B5.size)
  have N6 := N5.kept (Kept.of_below b6 (fun _ => False)) id
  have G6 := G5.kept (Kept.of_below b6 (fun _ => False)) id
  clear P b6 c4 g0 B5 N5 G5
  by_cases hy : y3 = false
  · subst hy
    go_wp2_with (go_at_call 33; refine (T3 _).mono ?_; rintro e w' ⟨rfl, hw⟩; obtain rfl := hw.symm)
    go_ret
    exact ⟨by rw [HE.out]; rfl, B6⟩
  have hy : y3 = true := by simpa using hy
  subst hy
  go_wp2_with fail
  rw [rounds_succ]
  have c4 := N6.cellv (v := .slice aS m cS) 5 rfl
  have g0 := G6.cellv (v := .string ⟨#[99, 97, 116, 99, 104, 45, 97, 108, 108]⟩) 1 rfl
  have P := SC.out w6 B6
  go_wp2_with fail
  go_at_call 67
  refine P.mono ?_
  rintro e w7 ⟨rfl, b7⟩
  have B7 : Below w.heap.size w w7 := B6.trans (b7.mono B6.size)
  have N7 := N6.kept (Kept.of_below b7 (fun _ => False)) id
  have G7 := G6.kept (Kept.of_below b7 (fun _ => False)) id
  clear P b7 c4 g0 B6 N6 G6
  by_cases hy : y4 = false
  · subst hy
    go_wp2_with (go_at_call 33; refine (T4 _).mono ?_; rintro e w' ⟨rfl, hw⟩; obtain rfl := hw.symm)
    go_ret
    exact ⟨by rw [HE.out]; rfl, B7⟩
  have hy : y4 = true := by simpa using hy
  subst hy
  go_wp2_with fail
  rw [rounds_succ]
  go_wp2_with fail
  go_ret
  exact ⟨by rw [HE.out]; rfl, B7⟩
/-- One Fault of a chain. -/
structure Lk where
  line : Int
  what : ByteArray
/-- What a chain ends with: a number, or nothing. -/
abbrev Base := Int ⊕ Unit
def Base.val : Base → Value
  | .inl n => .iface 41 (.int .i64 n)
  | .inr _ => .nilIface
/-- The error that a chain is. -/
def val (B : Base) : List Lk → Value
  | [] => B.val
  | l :: ls => .iface 90 (.agg #[.int .i64 l.line, .string l.what, val B ls])
theorem of_ok (S : ByteArray) (n : Int) (w : World) :
    Calls Tryz.prog 17 #[.string S, .iface 41 (.int .i64 n)] w fun e w' => e = .returned (val (.inl n) [⟨0, S⟩]) ∧ w' = w := by
  have hq : val (.inl n) [⟨0, S⟩] = .iface 90 (.agg #[.int .i64 0, .string S, .iface 41 (.int .i64 n)]) := rfl
  rw [hq]
  clear hq
  go_enter Tryz.func17, Tryz.ntmps17
  go_wp2
  go_ret
  exact ⟨rfl, rfl⟩
end Go.Proofs.YtijjpblmnlednaaGreatDoor
