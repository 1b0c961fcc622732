/-
  The walk of 'WidthKinds'. Conditions: numbers fit their type, the request lies in memory.
-/
import Derived.Test.YtajceffbpobglaaWs
import Derived.Test.YtajceffbpobglaaSq
import Derived.Test.YtajceffbpobglaaOrQ
import Derived.Deep.CutBlock
import Derived.Deep.DeepCutAuto
namespace Go.Proofs.Ytajceffbpobglaa
open Go.RowKit

def zB : Array Value := #[.string ⟨#[]⟩, .slice none 0 0, .string ⟨#[]⟩, .string ⟨#[]⟩, .string ⟨#[]⟩, .int .i64 0]
/-- A request's six cells, put. -/
theorem six_set {w : World} {a : Nat} {c0 c1 c2 c3 c4 c5 v0 v1 v2 v3 v4 v5 : Value} (h : Blk w a 24 #[c0, c1, c2, c3, c4, c5]) :
    Blk ((((((w.setCell ⟨a, 0, none⟩ v0).setCell ⟨a, 1, none⟩ v1).setCell ⟨a, 2, none⟩ v2).setCell ⟨a, 3, none⟩ v3).setCell ⟨a, 4, none⟩ v4).setCell ⟨a, 5, none⟩ v5) a 24 #[v0, v1, v2, v3, v4, v5]
    ∧ Kept (fun k => k = a) w ((((((w.setCell ⟨a, 0, none⟩ v0).setCell ⟨a, 1, none⟩ v1).setCell ⟨a, 2, none⟩ v2).setCell ⟨a, 3, none⟩ v3).setCell ⟨a, 4, none⟩ v4).setCell ⟨a, 5, none⟩ v5) := by
  refine ⟨?_, ((((((Kept.refl (fun k => k = a) w).setCell _ _ (.inl rfl)).setCell _ _ (.inl rfl)).setCell _ _ (.inl rfl)).setCell _ _ (.inl rfl)).setCell _ _ (.inl rfl)).setCell _ _ (.inl rfl)⟩
  have := (((((h.set 0 v0).set 1 v1).set 2 v2).set 3 v3).set 4 v4).set 5 v5
  simpa using this
theorem Blk.alloc {w : World} {b t : Nat} {cs : Array Value} (h : Blk w b t cs) (o : Obj) : Blk (w.alloc o) b t cs := h.kept (Kept.of_below (alloc_below w o) (fun _ => False)) id
/-- Three requests in memory of their own. -/
structure Tri (u : World) (bx : Array Value) (s7 s8 s9 : Value) (wx : World) : Prop where
  ex : ∃ a b c, (s7 = .pointer (some ⟨a, 0, none⟩) ∧ s8 = .pointer (some ⟨b, 0, none⟩) ∧ s9 = .pointer (some ⟨c, 0, none⟩)) ∧ (a ≠ b ∧ b ≠ c ∧ a ≠ c) ∧ (u.heap.size ≤ a ∧ u.heap.size ≤ b ∧ u.heap.size ≤ c) ∧ (Blk wx a 24 bx ∧ Blk wx b 24 bx ∧ Blk wx c 24 bx) ∧ Below u.heap.size u wx

set_option maxRecDepth 20000 in
set_option maxHeartbeats 2000000 in
theorem kinds_law {x0 x2 x3 x4 : ByteArray} {x5 : Int} {L : List ByteArray} {ag : Option Addr} {ng cg : Nat} (per most : Int) (w : World) (hp : -9223372036854775808 ≤ per) (hp' : per ≤ 9223372036854775807) (hm : -9223372036854775808 ≤ most) (hm' : most ≤ 9223372036854775807) (hq : RqR w (.agg #[.string x0, .slice ag ng cg, .string x2, .string x3, .string x4, .int .i64 x5]) ⟨x0, L, x2, x3, x4, x5⟩) :
    Calls Try.prog 5 #[.int .i64 per, .int .i64 most, .agg #[.string x0, .slice ag ng cg, .string x2, .string x3, .string x4, .int .i64 x5]] w fun e w' => e = .returned (.bool true) ∧ Below w.heap.size w w' := by
  obtain ⟨w1, hw1⟩ : ∃ w1, w1 = w.alloc (.cells #[.string x0, .slice ag ng cg, .string x2, .string x3, .string x4, .int .i64 x5] 24) := ⟨_, rfl⟩
  have B1 : Below w.heap.size w w1 := by rw [hw1]; exact alloc_below _ _
  have N1 : Blk w1 w.heap.size 24 #[.string x0, .slice ag ng cg, .string x2, .string x3, .string x4, .int .i64 x5] := by rw [hw1]; exact Blk.new _ _ _
  obtain ⟨o1, o2⟩ := hq.ob
  simp only at o1 o2
  have HW : Hd (∀ W, Below w1.heap.size w1 W → Blk W w.heap.size 24 #[.string x0, .slice ag ng cg, .string x2, .string x3, .string x4, .int .i64 x5] ∧ Below w.heap.size w W) := ⟨fun W b => ⟨N1.kept (Kept.of_below b (fun _ => False)) id, B1.trans (b.mono B1.size)⟩⟩
  have HM : Hd (∀ W, Below w1.heap.size w1 W → Calls Try.prog 7 #[.agg #[.string x0, .slice ag ng cg, .string x2, .string x3, .string x4, .int .i64 x5]] W fun e w' => IsQ e ∧ Below W.heap.size W w') := ⟨fun W b => smallQ_ok _ _ W (hq.carry (B1.trans (b.mono B1.size)))⟩
  clear N1 B1 hq
  have HL : Hd (∀ W, Calls Try.prog 8 #[.int .i64 per, .int .i64 most, .agg #[.string x0, .slice ag ng cg, .string ⟨#[108, 105, 115, 116]⟩, .string x3, .string x4, .int .i64 x5]] W fun e w' => e = .returned (.int .i64 (seats per most x5 0 (isS x4))) ∧ Below W.heap.size W w') := ⟨fun W => by have h := seats_ok (x0 := x0) (x2 := vList) (x3 := x3) (x4 := x4) (x5 := x5) (ag := ag) (ng := ng) (cg := cg) per most W hp hp' hm hm' o1 o2; rw [kd_list] at h; exact h⟩
  have HD : Hd (∀ W, Calls Try.prog 8 #[.int .i64 per, .int .i64 most, .agg #[.string x0, .slice ag ng cg, .string ⟨#[100, 101, 108, 101, 116, 101, 99, 111, 108, 108, 101, 99, 116, 105, 111, 110]⟩, .string x3, .string x4, .int .i64 x5]] W fun e w' => e = .returned (.int .i64 (seats per most x5 1 (isS x4))) ∧ Below W.heap.size W w') := ⟨fun W => by have h := seats_ok (x0 := x0) (x2 := vDel) (x3 := x3) (x4 := x4) (x5 := x5) (ag := ag) (ng := ng) (cg := cg) per most W hp hp' hm hm' o1 o2; rw [kd_del] at h; exact h⟩
  have HO : Hd (∀ W, Calls Try.prog 8 #[.int .i64 per, .int .i64 most, .agg #[.string x0, .slice ag ng cg, .string ⟨#[103, 101, 116]⟩, .string x3, .string x4, .int .i64 x5]] W fun e w' => e = .returned (.int .i64 (seats per most x5 3 (isS x4))) ∧ Below W.heap.size W w') := ⟨fun W => by have h := seats_ok (x0 := x0) (x2 := vGet) (x3 := x3) (x4 := x4) (x5 := x5) (ag := ag) (ng := ng) (cg := cg) per most W hp hp' hm hm' o1 o2; rw [kd_get] at h; exact h⟩
  have HV : Hd (∀ W, Calls Try.prog 8 #[.int .i64 per, .int .i64 most, .agg #[.string x0, .slice ag ng cg, .string ⟨#[108, 105, 115, 116]⟩, .string x3, .string ⟨#[]⟩, .int .i64 x5]] W fun e w' => e = .returned (.int .i64 (seats per most x5 0 false)) ∧ Below W.heap.size W w') := ⟨fun W => by have h := seats_ok (x0 := x0) (x2 := vList) (x3 := x3) (x4 := ⟨#[]⟩) (x5 := x5) (ag := ag) (ng := ng) (cg := cg) per most W hp hp' hm hm' o1 o2; rw [kd_list, show isS ⟨#[]⟩ = false from by decide +kernel] at h; exact h⟩
  have n1 := seats_in per most x5 0 (isS x4)
  have m1 := seats_all per most x5 (isS x4)
  have m2 := seats_wide per most x5 (isS x4)
  have m3 := seats_other per most x5 (isS x4)
  have t1 := top_in most
  have n2 : seats per most x5 0 (isS x4) ≤ 16 := by omega
  have n3 := n1.1
  rw [m3] at HO
  unfold top at m1
  clear n1 m3 t1
  generalize seats per most x5 0 (isS x4) = z at *
  generalize seats per most x5 1 (isS x4) = z1 at *
  generalize seats per most x5 0 false = z2 at *
  generalize isS x4 = s at *
  have I := awake_ok w1
  go_enter Try.func5, Try.ntmps5
  go_upto_region 1 with fail
  rw [← hw1]
  clear hw1
  obtain ⟨g, hg⟩ : ∃ g, g = w.heap.size := ⟨_, rfl⟩
  rw [← hg]
  have HG : Hd (g = w.heap.size) := ⟨hg⟩
  rw [← hg] at HW
  clear hg
  go_upto_region 3 with (go_at_call 6; refine I.mono ?_; rintro e w2 ⟨rfl, b2⟩)
  have B2 : Hd (Below w1.heap.size w1 w2) := ⟨b2⟩
  clear I b2
  obtain ⟨N2, -⟩ := HW.out w2 B2.out
  have d0 := N2.cellv (v := .string x0) 0 rfl
  have d1 := N2.cellv (v := .slice ag ng cg) 1 rfl
  have d2 := N2.cellv (v := .string x2) 2 rfl
  have d3 := N2.cellv (v := .string x3) 3 rfl
  have d4 := N2.cellv (v := .string x4) 4 rfl
  have d5 := N2.cellv (v := .int .i64 x5) 5 rfl
  have M := HM.out w2 B2.out
  clear N2 HM
  go_wp2_with fail
  go_at_call 7
  refine M.mono ?_
  rintro e w3 ⟨hb, b3⟩
  obtain ⟨bs, rfl⟩ := hb.ex
  have B3 : Hd (Below w1.heap.size w1 w3) := ⟨B2.out.trans (b3.mono B2.out.size)⟩
  clear M b3 B2 hb d0 d1 d2 d3 d4 d5
  cases bs with
  | false =>
    have HF : Hd (Below w.heap.size w w3) := ⟨by rw [← HG.out]; exact (HW.out w3 B3.out).2⟩
    go_wp2_with fail
    go_ret
    exact ⟨rfl, HF.out⟩
  | true =>
    go_upto_region 5 with fail
    go_cut [7, 8, 9] from 18 to 20 (fun s7 s8 s9 wx => Tri w3 #[.string x0, .slice ag ng cg, .string x2, .string x3, .string x4, .int .i64 x5] s7 s8 s9 wx)
    case first =>
      have X : Hd (∀ W, Blk W g 24 #[.string x0, .slice ag ng cg, .string x2, .string x3, .string x4, .int .i64 x5] → W.cell? ⟨g, 0, none⟩ = some (.string x0) ∧ W.cell? ⟨g, 1, none⟩ = some (.slice ag ng cg) ∧ W.cell? ⟨g, 2, none⟩ = some (.string x2) ∧ W.cell? ⟨g, 3, none⟩ = some (.string x3) ∧ W.cell? ⟨g, 4, none⟩ = some (.string x4) ∧ W.cell? ⟨g, 5, none⟩ = some (.int .i64 x5)) := ⟨fun W N2 => ⟨N2.cellv 0 rfl, N2.cellv 1 rfl, N2.cellv 2 rfl, N2.cellv 3 rfl, N2.cellv 4 rfl, N2.cellv 5 rfl⟩⟩
      have N3 : Blk w3.drew g 24 #[.string x0, .slice ag ng cg, .string x2, .string x3, .string x4, .int .i64 x5] := (HW.out w3 B3.out).1
      have LT : Hd (g < w3.heap.size) := ⟨(HW.out w3 B3.out).1.lt⟩
      have B4 : Below w3.heap.size w3 w3.drew := (Below.refl _ _).drew
      clear B3 HW HL HD HO HV
      refine AnyG.start (T := fun W => Blk W g 24 #[.string x0, .slice ag ng cg, .string x2, .string x3, .string x4, .int .i64 x5]) (U := fun _ => True) (j0 := 100) (by kernel_rfl) ?_
      generalize w3.drew = v0 at *
      refine .tq 0 18 N3 ?_ (hy := fun w hSw => by obtain ⟨s0, s1, s2, s3, s4, s5⟩ := X.out w hSw; go_simp; rfl); simp only [tkA, tkB, tkC]
      refine .tq 1 19 N3 ?_ (hy := fun w hSw => by obtain ⟨s0, s1, s2, s3, s4, s5⟩ := X.out w hSw; go_simp; rfl); simp only [tkA, tkB, tkC]
      refine .tq 2 20 N3 ?_ (hy := fun w hSw => by obtain ⟨s0, s1, s2, s3, s4, s5⟩ := X.out w hSw; go_simp; rfl); simp only [tkA, tkB, tkC]
      clear X
      refine AnyG.ready (rs := [3, 4, 5]) (by kernel_rfl) (by simp) ?_
      refine AllG.cons rfl (fun K hK => ?_) (AllG.cons rfl (fun K hK => ?_) (AllG.cons rfl (fun K hK => ?_) (AllG.nil)))
      · skip
        go_simp
        have NEW := Blk.new v0 24 zB
        have T2 : Blk (v0.alloc (.cells zB 24)) g 24 #[.string x0, .slice ag ng cg, .string x2, .string x3, .string x4, .int .i64 x5] := N3.alloc _
        have B5 : Below w3.heap.size w3 (v0.alloc (.cells zB 24)) := B4.trans ((alloc_below _ _).mono B4.size)
        have gea : Hd (w3.heap.size ≤ v0.heap.size) := ⟨B4.size⟩
        unfold zB at T2 B5
        refine hK.out _ _ ⟨T2, fun _ => trivial⟩ ?_
        clear hK K N3 B4
        rename Blk _ g 24 _ => N3
        rename Below _ w3 _ => B4
        unfold zB at NEW
        try simp only [tkA, tkB, tkC]
        generalize v0.alloc _ = v1 at *
        generalize v0.heap.size = a at *
        rename Blk _ a 24 _ => Na
        refine AnyG.ready (rs := [4, 5]) (by kernel_rfl) (by simp) ?_
        refine AllG.cons rfl (fun K hK => ?_) (AllG.cons rfl (fun K hK => ?_) (AllG.nil))
        · skip
          go_simp
          have NEW := Blk.new v1 24 zB
          have T2 : Blk (v1.alloc (.cells zB 24)) g 24 #[.string x0, .slice ag ng cg, .string x2, .string x3, .string x4, .int .i64 x5] := N3.alloc _
          have B5 : Below w3.heap.size w3 (v1.alloc (.cells zB 24)) := B4.trans ((alloc_below _ _).mono B4.size)
          have geb : Hd (w3.heap.size ≤ v1.heap.size) := ⟨B4.size⟩
          have neab : Hd (a ≠ v1.heap.size) := ⟨fun e => by have := Na.lt; omega⟩
          replace Na := Na.alloc (.cells zB 24)
          unfold zB at T2 B5 Na
          refine hK.out _ _ ⟨T2, fun _ => trivial⟩ ?_
          clear hK K N3 B4
          rename Blk _ g 24 _ => N3
          rename Below _ w3 _ => B4
          unfold zB at NEW
          try simp only [tkA, tkB, tkC]
          generalize v1.alloc _ = v2 at *
          generalize v1.heap.size = b at *
          rename Blk _ b 24 _ => Nb
          refine AnyG.ready (rs := [5]) (by kernel_rfl) (by simp) ?_
          refine AllG.cons rfl (fun K hK => ?_) (AllG.nil)
          · skip
            go_simp
            have NEW := Blk.new v2 24 zB
            have T2 : Blk (v2.alloc (.cells zB 24)) g 24 #[.string x0, .slice ag ng cg, .string x2, .string x3, .string x4, .int .i64 x5] := N3.alloc _
            have B5 : Below w3.heap.size w3 (v2.alloc (.cells zB 24)) := B4.trans ((alloc_below _ _).mono B4.size)
            have gec : Hd (w3.heap.size ≤ v2.heap.size) := ⟨B4.size⟩
            have neac : Hd (a ≠ v2.heap.size) := ⟨fun e => by have := Na.lt; omega⟩
            replace Na := Na.alloc (.cells zB 24)
            have nebc : Hd (b ≠ v2.heap.size) := ⟨fun e => by have := Nb.lt; omega⟩
            replace Nb := Nb.alloc (.cells zB 24)
            unfold zB at T2 B5 Na Nb
            refine hK.out _ _ ⟨T2, fun _ => trivial⟩ ?_
            clear hK K N3 B4
            rename Blk _ g 24 _ => N3
            rename Below _ w3 _ => B4
            unfold zB at NEW
            try simp only [tkA, tkB, tkC]
            generalize v2.alloc _ = v3 at *
            generalize v2.heap.size = c at *
            rename Blk _ c 24 _ => Nc
            have hab : a ≠ b := neab.out
            have hbc : b ≠ c := nebc.out
            have hac : a ≠ c := neac.out
            have hga : g ≠ a := fun e => by have := LT.out; have := gea.out; omega
            have hgb : g ≠ b := fun e => by have := LT.out; have := geb.out; omega
            have hgc : g ≠ c := fun e => by have := LT.out; have := gec.out; omega
            obtain ⟨q1, q2⟩ := six_set (v0 := .string x0) (v1 := .slice ag ng cg) (v2 := .string x2) (v3 := .string x3) (v4 := .string x4) (v5 := .int .i64 x5) Na
            have r0 := Na.cellv 0 rfl
            have f0 := Na.frozen 0
            have r1 := Na.cellv 1 rfl
            have f1 := Na.frozen 1
            have r2 := Na.cellv 2 rfl
            have f2 := Na.frozen 2
            have r3 := Na.cellv 3 rfl
            have f3 := Na.frozen 3
            have r4 := Na.cellv 4 rfl
            have f4 := Na.frozen 4
            have r5 := Na.cellv 5 rfl
            have f5 := Na.frozen 5
            refine AnyG.ready (rs := [6]) (by kernel_rfl) (by simp) ?_
            refine AllG.cons rfl (fun K hK => ?_) AllG.nil
            go_simp
            have T2 := N3.kept q2 hga
            refine hK.out _ _ ⟨T2, fun _ => trivial⟩ ?_
            clear hK K r0 f0 r1 f1 r2 f2 r3 f3 r4 f4 r5 f5
            have B5 := B4.trans (q2.below B4.size (fun k e => by rw [e]; exact gea.out))
            have Mb := Nb.kept q2 (fun e => hab e.symm)
            have Mc := Nc.kept q2 (fun e => hac e.symm)
            clear N3 B4 Na Nb Nc q2
            generalize World.setCell _ _ _ = v4 at *
            have N3 := T2
            have B4 := B5
            have Na := q1
            have Nb := Mb
            have Nc := Mc
            clear T2 B5 q1 Mb Mc
            obtain ⟨q1, q2⟩ := six_set (v0 := .string x0) (v1 := .slice ag ng cg) (v2 := .string x2) (v3 := .string x3) (v4 := .string x4) (v5 := .int .i64 x5) Nb
            have r0 := Nb.cellv 0 rfl
            have f0 := Nb.frozen 0
            have r1 := Nb.cellv 1 rfl
            have f1 := Nb.frozen 1
            have r2 := Nb.cellv 2 rfl
            have f2 := Nb.frozen 2
            have r3 := Nb.cellv 3 rfl
            have f3 := Nb.frozen 3
            have r4 := Nb.cellv 4 rfl
            have f4 := Nb.frozen 4
            have r5 := Nb.cellv 5 rfl
            have f5 := Nb.frozen 5
            refine AnyG.ready (rs := [7]) (by kernel_rfl) (by simp) ?_
            refine AllG.cons rfl (fun K hK => ?_) AllG.nil
            go_simp
            have T2 := N3.kept q2 hgb
            refine hK.out _ _ ⟨T2, fun _ => trivial⟩ ?_
            clear hK K r0 f0 r1 f1 r2 f2 r3 f3 r4 f4 r5 f5
            have B5 := B4.trans (q2.below B4.size (fun k e => by rw [e]; exact geb.out))
            have Ma := Na.kept q2 (hab)
            have Mc := Nc.kept q2 (fun e => hbc e.symm)
            clear N3 B4 Na Nb Nc q2
            generalize World.setCell _ _ _ = v5 at *
            have N3 := T2
            have B4 := B5
            have Nb := q1
            have Na := Ma
            have Nc := Mc
            clear T2 B5 q1 Ma Mc
            obtain ⟨q1, q2⟩ := six_set (v0 := .string x0) (v1 := .slice ag ng cg) (v2 := .string x2) (v3 := .string x3) (v4 := .string x4) (v5 := .int .i64 x5) Nc
            have r0 := Nc.cellv 0 rfl
            have f0 := Nc.frozen 0
            have r1 := Nc.cellv 1 rfl
            have f1 := Nc.frozen 1
            have r2 := Nc.cellv 2 rfl
            have f2 := Nc.frozen 2
            have r3 := Nc.cellv 3 rfl
            have f3 := Nc.frozen 3
            have r4 := Nc.cellv 4 rfl
            have f4 := Nc.frozen 4
            have r5 := Nc.cellv 5 rfl
            have f5 := Nc.frozen 5
            refine AnyG.ready (rs := [8]) (by kernel_rfl) (by simp) ?_
            refine AllG.cons rfl (fun K hK => ?_) AllG.nil
            go_simp
            have T2 := N3.kept q2 hgc
            refine hK.out _ _ ⟨T2, fun _ => trivial⟩ ?_
            clear hK K r0 f0 r1 f1 r2 f2 r3 f3 r4 f4 r5 f5
            have B5 := B4.trans (q2.below B4.size (fun k e => by rw [e]; exact gec.out))
            have Ma := Na.kept q2 (hac)
            have Mb := Nb.kept q2 (hbc)
            clear N3 B4 Na Nb Nc q2
            generalize World.setCell _ _ _ = v6 at *
            have N3 := T2
            have B4 := B5
            have Nc := q1
            have Na := Ma
            have Nb := Mb
            clear T2 B5 q1 Ma Mb
            refine AnyG.done (by kernel_rfl) ?_ _
            have HT : Hd (Tri w3 #[.string x0, .slice ag ng cg, .string x2, .string x3, .string x4, .int .i64 x5] (.pointer (some ⟨a, 0, none⟩)) (.pointer (some ⟨b, 0, none⟩)) (.pointer (some ⟨c, 0, none⟩)) v6) := ⟨⟨a, b, c, ⟨rfl, rfl, rfl⟩, ⟨hab, hbc, hac⟩, ⟨gea.out, geb.out, gec.out⟩, ⟨Na, Nb, Nc⟩, B4⟩⟩
            clear Na Nb Nc N3 B4 hab hbc hac hga hgb hgc
            go_wp2_with fail
            go_meet
            exact HT.out
        · skip
          go_simp
          have NEW := Blk.new v1 24 zB
          have T2 : Blk (v1.alloc (.cells zB 24)) g 24 #[.string x0, .slice ag ng cg, .string x2, .string x3, .string x4, .int .i64 x5] := N3.alloc _
          have B5 : Below w3.heap.size w3 (v1.alloc (.cells zB 24)) := B4.trans ((alloc_below _ _).mono B4.size)
          have gec : Hd (w3.heap.size ≤ v1.heap.size) := ⟨B4.size⟩
          have neac : Hd (a ≠ v1.heap.size) := ⟨fun e => by have := Na.lt; omega⟩
          replace Na := Na.alloc (.cells zB 24)
          unfold zB at T2 B5 Na
          refine hK.out _ _ ⟨T2, fun _ => trivial⟩ ?_
          clear hK K N3 B4
          rename Blk _ g 24 _ => N3
          rename Below _ w3 _ => B4
          unfold zB at NEW
          try simp only [tkA, tkB, tkC]
          generalize v1.alloc _ = v2 at *
          generalize v1.heap.size = c at *
          rename Blk _ c 24 _ => Nc
          refine AnyG.ready (rs := [4]) (by kernel_rfl) (by simp) ?_
          refine AllG.cons rfl (fun K hK => ?_) (AllG.nil)
          · skip
            go_simp
            have NEW := Blk.new v2 24 zB
            have T2 : Blk (v2.alloc (.cells zB 24)) g 24 #[.string x0, .slice ag ng cg, .string x2, .string x3, .string x4, .int .i64 x5] := N3.alloc _
            have B5 : Below w3.heap.size w3 (v2.alloc (.cells zB 24)) := B4.trans ((alloc_below _ _).mono B4.size)
            have geb : Hd (w3.heap.size ≤ v2.heap.size) := ⟨B4.size⟩
            have neab : Hd (a ≠ v2.heap.size) := ⟨fun e => by have := Na.lt; omega⟩
            replace Na := Na.alloc (.cells zB 24)
            have necb : Hd (c ≠ v2.heap.size) := ⟨fun e => by have := Nc.lt; omega⟩
            replace Nc := Nc.alloc (.cells zB 24)
            unfold zB at T2 B5 Na Nc
            refine hK.out _ _ ⟨T2, fun _ => trivial⟩ ?_
            clear hK K N3 B4
            rename Blk _ g 24 _ => N3
            rename Below _ w3 _ => B4
            unfold zB at NEW
            try simp only [tkA, tkB, tkC]
            generalize v2.alloc _ = v3 at *
            generalize v2.heap.size = b at *
            rename Blk _ b 24 _ => Nb
            have hab : a ≠ b := neab.out
            have hbc : b ≠ c := fun e => necb.out e.symm
            have hac : a ≠ c := neac.out
            have hga : g ≠ a := fun e => by have := LT.out; have := gea.out; omega
            have hgb : g ≠ b := fun e => by have := LT.out; have := geb.out; omega
            have hgc : g ≠ c := fun e => by have := LT.out; have := gec.out; omega
            obtain ⟨q1, q2⟩ := six_set (v0 := .string x0) (v1 := .slice ag ng cg) (v2 := .string x2) (v3 := .string x3) (v4 := .string x4) (v5 := .int .i64 x5) Na
            have r0 := Na.cellv 0 rfl
            have f0 := Na.frozen 0
            have r1 := Na.cellv 1 rfl
            have f1 := Na.frozen 1
            have r2 := Na.cellv 2 rfl
            have f2 := Na.frozen 2
            have r3 := Na.cellv 3 rfl
            have f3 := Na.frozen 3
            have r4 := Na.cellv 4 rfl
            have f4 := Na.frozen 4
            have r5 := Na.cellv 5 rfl
            have f5 := Na.frozen 5
            refine AnyG.ready (rs := [6]) (by kernel_rfl) (by simp) ?_
            refine AllG.cons rfl (fun K hK => ?_) AllG.nil
            go_simp
            have T2 := N3.kept q2 hga
            refine hK.out _ _ ⟨T2, fun _ => trivial⟩ ?_
            clear hK K r0 f0 r1 f1 r2 f2 r3 f3 r4 f4 r5 f5
            have B5 := B4.trans (q2.below B4.size (fun k e => by rw [e]; exact gea.out))
            have Mb := Nb.kept q2 (fun e => hab e.symm)
            have Mc := Nc.kept q2 (fun e => hac e.symm)
            clear N3 B4 Na Nb Nc q2
            generalize World.setCell _ _ _ = v4 at *
            have N3 := T2
            have B4 := B5
            have Na := q1
            have Nb := Mb
            have Nc := Mc
            clear T2 B5 q1 Mb Mc
            obtain ⟨q1, q2⟩ := six_set (v0 := .string x0) (v1 := .slice ag ng cg) (v2 := .string x2) (v3 := .string x3) (v4 := .string x4) (v5 := .int .i64 x5) Nb
            have r0 := Nb.cellv 0 rfl
            have f0 := Nb.frozen 0
            have r1 := Nb.cellv 1 rfl
            have f1 := Nb.frozen 1
            have r2 := Nb.cellv 2 rfl
            have f2 := Nb.frozen 2
            have r3 := Nb.cellv 3 rfl
            have f3 := Nb.frozen 3
            have r4 := Nb.cellv 4 rfl
            have f4 := Nb.frozen 4
            have r5 := Nb.cellv 5 rfl
            have f5 := Nb.frozen 5
            refine AnyG.ready (rs := [7]) (by kernel_rfl) (by simp) ?_
            refine AllG.cons rfl (fun K hK => ?_) AllG.nil
            go_simp
            have T2 := N3.kept q2 hgb
            refine hK.out _ _ ⟨T2, fun _ => trivial⟩ ?_
            clear hK K r0 f0 r1 f1 r2 f2 r3 f3 r4 f4 r5 f5
            have B5 := B4.trans (q2.below B4.size (fun k e => by rw [e]; exact geb.out))
            have Ma := Na.kept q2 (hab)
            have Mc := Nc.kept q2 (fun e => hbc e.symm)
            clear N3 B4 Na Nb Nc q2
            generalize World.setCell _ _ _ = v5 at *
            have N3 := T2
            have B4 := B5
            have Nb := q1
            have Na := Ma
            have Nc := Mc
            clear T2 B5 q1 Ma Mc
            obtain ⟨q1, q2⟩ := six_set (v0 := .string x0) (v1 := .slice ag ng cg) (v2 := .string x2) (v3 := .string x3) (v4 := .string x4) (v5 := .int .i64 x5) Nc
            have r0 := Nc.cellv 0 rfl
            have f0 := Nc.frozen 0
            have r1 := Nc.cellv 1 rfl
            have f1 := Nc.frozen 1
            have r2 := Nc.cellv 2 rfl
            have f2 := Nc.frozen 2
            have r3 := Nc.cellv 3 rfl
            have f3 := Nc.frozen 3
            have r4 := Nc.cellv 4 rfl
            have f4 := Nc.frozen 4
            have r5 := Nc.cellv 5 rfl
            have f5 := Nc.frozen 5
            refine AnyG.ready (rs := [8]) (by kernel_rfl) (by simp) ?_
            refine AllG.cons rfl (fun K hK => ?_) AllG.nil
            go_simp
            have T2 := N3.kept q2 hgc
            refine hK.out _ _ ⟨T2, fun _ => trivial⟩ ?_
            clear hK K r0 f0 r1 f1 r2 f2 r3 f3 r4 f4 r5 f5
            have B5 := B4.trans (q2.below B4.size (fun k e => by rw [e]; exact gec.out))
            have Ma := Na.kept q2 (hac)
            have Mb := Nb.kept q2 (hbc)
            clear N3 B4 Na Nb Nc q2
            generalize World.setCell _ _ _ = v6 at *
            have N3 := T2
            have B4 := B5
            have Nc := q1
            have Na := Ma
            have Nb := Mb
            clear T2 B5 q1 Ma Mb
            refine AnyG.done (by kernel_rfl) ?_ _
            have HT : Hd (Tri w3 #[.string x0, .slice ag ng cg, .string x2, .string x3, .string x4, .int .i64 x5] (.pointer (some ⟨a, 0, none⟩)) (.pointer (some ⟨b, 0, none⟩)) (.pointer (some ⟨c, 0, none⟩)) v6) := ⟨⟨a, b, c, ⟨rfl, rfl, rfl⟩, ⟨hab, hbc, hac⟩, ⟨gea.out, geb.out, gec.out⟩, ⟨Na, Nb, Nc⟩, B4⟩⟩
            clear Na Nb Nc N3 B4 hab hbc hac hga hgb hgc
            go_wp2_with fail
            go_meet
            exact HT.out
      · skip
        go_simp
        have NEW := Blk.new v0 24 zB
        have T2 : Blk (v0.alloc (.cells zB 24)) g 24 #[.string x0, .slice ag ng cg, .string x2, .string x3, .string x4, .int .i64 x5] := N3.alloc _
        have B5 : Below w3.heap.size w3 (v0.alloc (.cells zB 24)) := B4.trans ((alloc_below _ _).mono B4.size)
        have geb : Hd (w3.heap.size ≤ v0.heap.size) := ⟨B4.size⟩
        unfold zB at T2 B5
        refine hK.out _ _ ⟨T2, fun _ => trivial⟩ ?_
        clear hK K N3 B4
        rename Blk _ g 24 _ => N3
        rename Below _ w3 _ => B4
        unfold zB at NEW
        try simp only [tkA, tkB, tkC]
        generalize v0.alloc _ = v1 at *
        generalize v0.heap.size = b at *
        rename Blk _ b 24 _ => Nb
        refine AnyG.ready (rs := [3, 5]) (by kernel_rfl) (by simp) ?_
        refine AllG.cons rfl (fun K hK => ?_) (AllG.cons rfl (fun K hK => ?_) (AllG.nil))
        · skip
          go_simp
          have NEW := Blk.new v1 24 zB
          have T2 : Blk (v1.alloc (.cells zB 24)) g 24 #[.string x0, .slice ag ng cg, .string x2, .string x3, .string x4, .int .i64 x5] := N3.alloc _
          have B5 : Below w3.heap.size w3 (v1.alloc (.cells zB 24)) := B4.trans ((alloc_below _ _).mono B4.size)
          have gea : Hd (w3.heap.size ≤ v1.heap.size) := ⟨B4.size⟩
          have neba : Hd (b ≠ v1.heap.size) := ⟨fun e => by have := Nb.lt; omega⟩
          replace Nb := Nb.alloc (.cells zB 24)
          unfold zB at T2 B5 Nb
          refine hK.out _ _ ⟨T2, fun _ => trivial⟩ ?_
          clear hK K N3 B4
          rename Blk _ g 24 _ => N3
          rename Below _ w3 _ => B4
          unfold zB at NEW
          try simp only [tkA, tkB, tkC]
          generalize v1.alloc _ = v2 at *
          generalize v1.heap.size = a at *
          rename Blk _ a 24 _ => Na
          refine AnyG.ready (rs := [5]) (by kernel_rfl) (by simp) ?_
          refine AllG.cons rfl (fun K hK => ?_) (AllG.nil)
          · skip
            go_simp
            have NEW := Blk.new v2 24 zB
            have T2 : Blk (v2.alloc (.cells zB 24)) g 24 #[.string x0, .slice ag ng cg, .string x2, .string x3, .string x4, .int .i64 x5] := N3.alloc _
            have B5 : Below w3.heap.size w3 (v2.alloc (.cells zB 24)) := B4.trans ((alloc_below _ _).mono B4.size)
            have gec : Hd (w3.heap.size ≤ v2.heap.size) := ⟨B4.size⟩
            have nebc : Hd (b ≠ v2.heap.size) := ⟨fun e => by have := Nb.lt; omega⟩
            replace Nb := Nb.alloc (.cells zB 24)
            have neac : Hd (a ≠ v2.heap.size) := ⟨fun e => by have := Na.lt; omega⟩
            replace Na := Na.alloc (.cells zB 24)
            unfold zB at T2 B5 Nb Na
            refine hK.out _ _ ⟨T2, fun _ => trivial⟩ ?_
            clear hK K N3 B4
            rename Blk _ g 24 _ => N3
            rename Below _ w3 _ => B4
            unfold zB at NEW
            try simp only [tkA, tkB, tkC]
            generalize v2.alloc _ = v3 at *
            generalize v2.heap.size = c at *
            rename Blk _ c 24 _ => Nc
            have hab : a ≠ b := fun e => neba.out e.symm
            have hbc : b ≠ c := nebc.out
            have hac : a ≠ c := neac.out
            have hga : g ≠ a := fun e => by have := LT.out; have := gea.out; omega
            have hgb : g ≠ b := fun e => by have := LT.out; have := geb.out; omega
            have hgc : g ≠ c := fun e => by have := LT.out; have := gec.out; omega
            obtain ⟨q1, q2⟩ := six_set (v0 := .string x0) (v1 := .slice ag ng cg) (v2 := .string x2) (v3 := .string x3) (v4 := .string x4) (v5 := .int .i64 x5) Na
            have r0 := Na.cellv 0 rfl
            have f0 := Na.frozen 0
            have r1 := Na.cellv 1 rfl
            have f1 := Na.frozen 1
            have r2 := Na.cellv 2 rfl
            have f2 := Na.frozen 2
            have r3 := Na.cellv 3 rfl
            have f3 := Na.frozen 3
            have r4 := Na.cellv 4 rfl
            have f4 := Na.frozen 4
            have r5 := Na.cellv 5 rfl
            have f5 := Na.frozen 5
            refine AnyG.ready (rs := [6]) (by kernel_rfl) (by simp) ?_
            refine AllG.cons rfl (fun K hK => ?_) AllG.nil
            go_simp
            have T2 := N3.kept q2 hga
            refine hK.out _ _ ⟨T2, fun _ => trivial⟩ ?_
            clear hK K r0 f0 r1 f1 r2 f2 r3 f3 r4 f4 r5 f5
            have B5 := B4.trans (q2.below B4.size (fun k e => by rw [e]; exact gea.out))
            have Mb := Nb.kept q2 (fun e => hab e.symm)
            have Mc := Nc.kept q2 (fun e => hac e.symm)
            clear N3 B4 Na Nb Nc q2
            generalize World.setCell _ _ _ = v4 at *
            have N3 := T2
            have B4 := B5
            have Na := q1
            have Nb := Mb
            have Nc := Mc
            clear T2 B5 q1 Mb Mc
            obtain ⟨q1, q2⟩ := six_set (v0 := .string x0) (v1 := .slice ag ng cg) (v2 := .string x2) (v3 := .string x3) (v4 := .string x4) (v5 := .int .i64 x5) Nb
            have r0 := Nb.cellv 0 rfl
            have f0 := Nb.frozen 0
            have r1 := Nb.cellv 1 rfl
            have f1 := Nb.frozen 1
            have r2 := Nb.cellv 2 rfl
            have f2 := Nb.frozen 2
            have r3 := Nb.cellv 3 rfl
            have f3 := Nb.frozen 3
            have r4 := Nb.cellv 4 rfl
            have f4 := Nb.frozen 4
            have r5 := Nb.cellv 5 rfl
            have f5 := Nb.frozen 5
            refine AnyG.ready (rs := [7]) (by kernel_rfl) (by simp) ?_
            refine AllG.cons rfl (fun K hK => ?_) AllG.nil
            go_simp
            have T2 := N3.kept q2 hgb
            refine hK.out _ _ ⟨T2, fun _ => trivial⟩ ?_
            clear hK K r0 f0 r1 f1 r2 f2 r3 f3 r4 f4 r5 f5
            have B5 := B4.trans (q2.below B4.size (fun k e => by rw [e]; exact geb.out))
            have Ma := Na.kept q2 (hab)
            have Mc := Nc.kept q2 (fun e => hbc e.symm)
            clear N3 B4 Na Nb Nc q2
            generalize World.setCell _ _ _ = v5 at *
            have N3 := T2
            have B4 := B5
            have Nb := q1
            have Na := Ma
            have Nc := Mc
            clear T2 B5 q1 Ma Mc
            obtain ⟨q1, q2⟩ := six_set (v0 := .string x0) (v1 := .slice ag ng cg) (v2 := .string x2) (v3 := .string x3) (v4 := .string x4) (v5 := .int .i64 x5) Nc
            have r0 := Nc.cellv 0 rfl
            have f0 := Nc.frozen 0
            have r1 := Nc.cellv 1 rfl
            have f1 := Nc.frozen 1
            have r2 := Nc.cellv 2 rfl
            have f2 := Nc.frozen 2
            have r3 := Nc.cellv 3 rfl
            have f3 := Nc.frozen 3
            have r4 := Nc.cellv 4 rfl
            have f4 := Nc.frozen 4
            have r5 := Nc.cellv 5 rfl
            have f5 := Nc.frozen 5
            refine AnyG.ready (rs := [8]) (by kernel_rfl) (by simp) ?_
            refine AllG.cons rfl (fun K hK => ?_) AllG.nil
            go_simp
            have T2 := N3.kept q2 hgc
            refine hK.out _ _ ⟨T2, fun _ => trivial⟩ ?_
            clear hK K r0 f0 r1 f1 r2 f2 r3 f3 r4 f4 r5 f5
            have B5 := B4.trans (q2.below B4.size (fun k e => by rw [e]; exact gec.out))
            have Ma := Na.kept q2 (hac)
            have Mb := Nb.kept q2 (hbc)
            clear N3 B4 Na Nb Nc q2
            generalize World.setCell _ _ _ = v6 at *
            have N3 := T2
            have B4 := B5
            have Nc := q1
            have Na := Ma
            have Nb := Mb
            clear T2 B5 q1 Ma Mb
            refine AnyG.done (by kernel_rfl) ?_ _
            have HT : Hd (Tri w3 #[.string x0, .slice ag ng cg, .string x2, .string x3, .string x4, .int .i64 x5] (.pointer (some ⟨a, 0, none⟩)) (.pointer (some ⟨b, 0, none⟩)) (.pointer (some ⟨c, 0, none⟩)) v6) := ⟨⟨a, b, c, ⟨rfl, rfl, rfl⟩, ⟨hab, hbc, hac⟩, ⟨gea.out, geb.out, gec.out⟩, ⟨Na, Nb, Nc⟩, B4⟩⟩
            clear Na Nb Nc N3 B4 hab hbc hac hga hgb hgc
            go_wp2_with fail
            go_meet
            exact HT.out
        · skip
          go_simp
          have NEW := Blk.new v1 24 zB
          have T2 : Blk (v1.alloc (.cells zB 24)) g 24 #[.string x0, .slice ag ng cg, .string x2, .string x3, .string x4, .int .i64 x5] := N3.alloc _
          have B5 : Below w3.heap.size w3 (v1.alloc (.cells zB 24)) := B4.trans ((alloc_below _ _).mono B4.size)
          have gec : Hd (w3.heap.size ≤ v1.heap.size) := ⟨B4.size⟩
          have nebc : Hd (b ≠ v1.heap.size) := ⟨fun e => by have := Nb.lt; omega⟩
          replace Nb := Nb.alloc (.cells zB 24)
          unfold zB at T2 B5 Nb
          refine hK.out _ _ ⟨T2, fun _ => trivial⟩ ?_
          clear hK K N3 B4
          rename Blk _ g 24 _ => N3
          rename Below _ w3 _ => B4
          unfold zB at NEW
          try simp only [tkA, tkB, tkC]
          generalize v1.alloc _ = v2 at *
          generalize v1.heap.size = c at *
          rename Blk _ c 24 _ => Nc
          refine AnyG.ready (rs := [3]) (by kernel_rfl) (by simp) ?_
          refine AllG.cons rfl (fun K hK => ?_) (AllG.nil)
          · skip
            go_simp
            have NEW := Blk.new v2 24 zB
            have T2 : Blk (v2.alloc (.cells zB 24)) g 24 #[.string x0, .slice ag ng cg, .string x2, .string x3, .string x4, .int .i64 x5] := N3.alloc _
            have B5 : Below w3.heap.size w3 (v2.alloc (.cells zB 24)) := B4.trans ((alloc_below _ _).mono B4.size)
            have gea : Hd (w3.heap.size ≤ v2.heap.size) := ⟨B4.size⟩
            have neba : Hd (b ≠ v2.heap.size) := ⟨fun e => by have := Nb.lt; omega⟩
            replace Nb := Nb.alloc (.cells zB 24)
            have neca : Hd (c ≠ v2.heap.size) := ⟨fun e => by have := Nc.lt; omega⟩
            replace Nc := Nc.alloc (.cells zB 24)
            unfold zB at T2 B5 Nb Nc
            refine hK.out _ _ ⟨T2, fun _ => trivial⟩ ?_
            clear hK K N3 B4
            rename Blk _ g 24 _ => N3
            rename Below _ w3 _ => B4
            unfold zB at NEW
            try simp only [tkA, tkB, tkC]
            generalize v2.alloc _ = v3 at *
            generalize v2.heap.size = a at *
            rename Blk _ a 24 _ => Na
            have hab : a ≠ b := fun e => neba.out e.symm
            have hbc : b ≠ c := nebc.out
            have hac : a ≠ c := fun e => neca.out e.symm
            have hga : g ≠ a := fun e => by have := LT.out; have := gea.out; omega
            have hgb : g ≠ b := fun e => by have := LT.out; have := geb.out; omega
            have hgc : g ≠ c := fun e => by have := LT.out; have := gec.out; omega
            obtain ⟨q1, q2⟩ := six_set (v0 := .string x0) (v1 := .slice ag ng cg) (v2 := .string x2) (v3 := .string x3) (v4 := .string x4) (v5 := .int .i64 x5) Na
            have r0 := Na.cellv 0 rfl
            have f0 := Na.frozen 0
            have r1 := Na.cellv 1 rfl
            have f1 := Na.frozen 1
            have r2 := Na.cellv 2 rfl
            have f2 := Na.frozen 2
            have r3 := Na.cellv 3 rfl
            have f3 := Na.frozen 3
            have r4 := Na.cellv 4 rfl
            have f4 := Na.frozen 4
            have r5 := Na.cellv 5 rfl
            have f5 := Na.frozen 5
            refine AnyG.ready (rs := [6]) (by kernel_rfl) (by simp) ?_
            refine AllG.cons rfl (fun K hK => ?_) AllG.nil
            go_simp
            have T2 := N3.kept q2 hga
            refine hK.out _ _ ⟨T2, fun _ => trivial⟩ ?_
            clear hK K r0 f0 r1 f1 r2 f2 r3 f3 r4 f4 r5 f5
            have B5 := B4.trans (q2.below B4.size (fun k e => by rw [e]; exact gea.out))
            have Mb := Nb.kept q2 (fun e => hab e.symm)
            have Mc := Nc.kept q2 (fun e => hac e.symm)
            clear N3 B4 Na Nb Nc q2
            generalize World.setCell _ _ _ = v4 at *
            have N3 := T2
            have B4 := B5
            have Na := q1
            have Nb := Mb
            have Nc := Mc
            clear T2 B5 q1 Mb Mc
            obtain ⟨q1, q2⟩ := six_set (v0 := .string x0) (v1 := .slice ag ng cg) (v2 := .string x2) (v3 := .string x3) (v4 := .string x4) (v5 := .int .i64 x5) Nb
            have r0 := Nb.cellv 0 rfl
            have f0 := Nb.frozen 0
            have r1 := Nb.cellv 1 rfl
            have f1 := Nb.frozen 1
            have r2 := Nb.cellv 2 rfl
            have f2 := Nb.frozen 2
            have r3 := Nb.cellv 3 rfl
            have f3 := Nb.frozen 3
            have r4 := Nb.cellv 4 rfl
            have f4 := Nb.frozen 4
            have r5 := Nb.cellv 5 rfl
            have f5 := Nb.frozen 5
            refine AnyG.ready (rs := [7]) (by kernel_rfl) (by simp) ?_
            refine AllG.cons rfl (fun K hK => ?_) AllG.nil
            go_simp
            have T2 := N3.kept q2 hgb
            refine hK.out _ _ ⟨T2, fun _ => trivial⟩ ?_
            clear hK K r0 f0 r1 f1 r2 f2 r3 f3 r4 f4 r5 f5
            have B5 := B4.trans (q2.below B4.size (fun k e => by rw [e]; exact geb.out))
            have Ma := Na.kept q2 (hab)
            have Mc := Nc.kept q2 (fun e => hbc e.symm)
            clear N3 B4 Na Nb Nc q2
            generalize World.setCell _ _ _ = v5 at *
            have N3 := T2
            have B4 := B5
            have Nb := q1
            have Na := Ma
            have Nc := Mc
            clear T2 B5 q1 Ma Mc
            obtain ⟨q1, q2⟩ := six_set (v0 := .string x0) (v1 := .slice ag ng cg) (v2 := .string x2) (v3 := .string x3) (v4 := .string x4) (v5 := .int .i64 x5) Nc
            have r0 := Nc.cellv 0 rfl
            have f0 := Nc.frozen 0
            have r1 := Nc.cellv 1 rfl
            have f1 := Nc.frozen 1
            have r2 := Nc.cellv 2 rfl
            have f2 := Nc.frozen 2
            have r3 := Nc.cellv 3 rfl
            have f3 := Nc.frozen 3
            have r4 := Nc.cellv 4 rfl
            have f4 := Nc.frozen 4
            have r5 := Nc.cellv 5 rfl
            have f5 := Nc.frozen 5
            refine AnyG.ready (rs := [8]) (by kernel_rfl) (by simp) ?_
            refine AllG.cons rfl (fun K hK => ?_) AllG.nil
            go_simp
            have T2 := N3.kept q2 hgc
            refine hK.out _ _ ⟨T2, fun _ => trivial⟩ ?_
            clear hK K r0 f0 r1 f1 r2 f2 r3 f3 r4 f4 r5 f5
            have B5 := B4.trans (q2.below B4.size (fun k e => by rw [e]; exact gec.out))
            have Ma := Na.kept q2 (hac)
            have Mb := Nb.kept q2 (hbc)
            clear N3 B4 Na Nb Nc q2
            generalize World.setCell _ _ _ = v6 at *
            have N3 := T2
            have B4 := B5
            have Nc := q1
            have Na := Ma
            have Nb := Mb
            clear T2 B5 q1 Ma Mb
            refine AnyG.done (by kernel_rfl) ?_ _
            have HT : Hd (Tri w3 #[.string x0, .slice ag ng cg, .string x2, .string x3, .string x4, .int .i64 x5] (.pointer (some ⟨a, 0, none⟩)) (.pointer (some ⟨b, 0, none⟩)) (.pointer (some ⟨c, 0, none⟩)) v6) := ⟨⟨a, b, c, ⟨rfl, rfl, rfl⟩, ⟨hab, hbc, hac⟩, ⟨gea.out, geb.out, gec.out⟩, ⟨Na, Nb, Nc⟩, B4⟩⟩
            clear Na Nb Nc N3 B4 hab hbc hac hga hgb hgc
            go_wp2_with fail
            go_meet
            exact HT.out
      · skip
        go_simp
        have NEW := Blk.new v0 24 zB
        have T2 : Blk (v0.alloc (.cells zB 24)) g 24 #[.string x0, .slice ag ng cg, .string x2, .string x3, .string x4, .int .i64 x5] := N3.alloc _
        have B5 : Below w3.heap.size w3 (v0.alloc (.cells zB 24)) := B4.trans ((alloc_below _ _).mono B4.size)
        have gec : Hd (w3.heap.size ≤ v0.heap.size) := ⟨B4.size⟩
        unfold zB at T2 B5
        refine hK.out _ _ ⟨T2, fun _ => trivial⟩ ?_
        clear hK K N3 B4
        rename Blk _ g 24 _ => N3
        rename Below _ w3 _ => B4
        unfold zB at NEW
        try simp only [tkA, tkB, tkC]
        generalize v0.alloc _ = v1 at *
        generalize v0.heap.size = c at *
        rename Blk _ c 24 _ => Nc
        refine AnyG.ready (rs := [3, 4]) (by kernel_rfl) (by simp) ?_
        refine AllG.cons rfl (fun K hK => ?_) (AllG.cons rfl (fun K hK => ?_) (AllG.nil))
        · skip
          go_simp
          have NEW := Blk.new v1 24 zB
          have T2 : Blk (v1.alloc (.cells zB 24)) g 24 #[.string x0, .slice ag ng cg, .string x2, .string x3, .string x4, .int .i64 x5] := N3.alloc _
          have B5 : Below w3.heap.size w3 (v1.alloc (.cells zB 24)) := B4.trans ((alloc_below _ _).mono B4.size)
          have gea : Hd (w3.heap.size ≤ v1.heap.size) := ⟨B4.size⟩
          have neca : Hd (c ≠ v1.heap.size) := ⟨fun e => by have := Nc.lt; omega⟩
          replace Nc := Nc.alloc (.cells zB 24)
          unfold zB at T2 B5 Nc
          refine hK.out _ _ ⟨T2, fun _ => trivial⟩ ?_
          clear hK K N3 B4
          rename Blk _ g 24 _ => N3
          rename Below _ w3 _ => B4
          unfold zB at NEW
          try simp only [tkA, tkB, tkC]
          generalize v1.alloc _ = v2 at *
          generalize v1.heap.size = a at *
          rename Blk _ a 24 _ => Na
          refine AnyG.ready (rs := [4]) (by kernel_rfl) (by simp) ?_
          refine AllG.cons rfl (fun K hK => ?_) (AllG.nil)
          · skip
            go_simp
            have NEW := Blk.new v2 24 zB
            have T2 : Blk (v2.alloc (.cells zB 24)) g 24 #[.string x0, .slice ag ng cg, .string x2, .string x3, .string x4, .int .i64 x5] := N3.alloc _
            have B5 : Below w3.heap.size w3 (v2.alloc (.cells zB 24)) := B4.trans ((alloc_below _ _).mono B4.size)
            have geb : Hd (w3.heap.size ≤ v2.heap.size) := ⟨B4.size⟩
            have necb : Hd (c ≠ v2.heap.size) := ⟨fun e => by have := Nc.lt; omega⟩
            replace Nc := Nc.alloc (.cells zB 24)
            have neab : Hd (a ≠ v2.heap.size) := ⟨fun e => by have := Na.lt; omega⟩
            replace Na := Na.alloc (.cells zB 24)
            unfold zB at T2 B5 Nc Na
            refine hK.out _ _ ⟨T2, fun _ => trivial⟩ ?_
            clear hK K N3 B4
            rename Blk _ g 24 _ => N3
            rename Below _ w3 _ => B4
            unfold zB at NEW
            try simp only [tkA, tkB, tkC]
            generalize v2.alloc _ = v3 at *
            generalize v2.heap.size = b at *
            rename Blk _ b 24 _ => Nb
            have hab : a ≠ b := neab.out
            have hbc : b ≠ c := fun e => necb.out e.symm
            have hac : a ≠ c := fun e => neca.out e.symm
            have hga : g ≠ a := fun e => by have := LT.out; have := gea.out; omega
            have hgb : g ≠ b := fun e => by have := LT.out; have := geb.out; omega
            have hgc : g ≠ c := fun e => by have := LT.out; have := gec.out; omega
            obtain ⟨q1, q2⟩ := six_set (v0 := .string x0) (v1 := .slice ag ng cg) (v2 := .string x2) (v3 := .string x3) (v4 := .string x4) (v5 := .int .i64 x5) Na
            have r0 := Na.cellv 0 rfl
            have f0 := Na.frozen 0
            have r1 := Na.cellv 1 rfl
            have f1 := Na.frozen 1
            have r2 := Na.cellv 2 rfl
            have f2 := Na.frozen 2
            have r3 := Na.cellv 3 rfl
            have f3 := Na.frozen 3
            have r4 := Na.cellv 4 rfl
            have f4 := Na.frozen 4
            have r5 := Na.cellv 5 rfl
            have f5 := Na.frozen 5
            refine AnyG.ready (rs := [6]) (by kernel_rfl) (by simp) ?_
            refine AllG.cons rfl (fun K hK => ?_) AllG.nil
            go_simp
            have T2 := N3.kept q2 hga
            refine hK.out _ _ ⟨T2, fun _ => trivial⟩ ?_
            clear hK K r0 f0 r1 f1 r2 f2 r3 f3 r4 f4 r5 f5
            have B5 := B4.trans (q2.below B4.size (fun k e => by rw [e]; exact gea.out))
            have Mb := Nb.kept q2 (fun e => hab e.symm)
            have Mc := Nc.kept q2 (fun e => hac e.symm)
            clear N3 B4 Na Nb Nc q2
            generalize World.setCell _ _ _ = v4 at *
            have N3 := T2
            have B4 := B5
            have Na := q1
            have Nb := Mb
            have Nc := Mc
            clear T2 B5 q1 Mb Mc
            obtain ⟨q1, q2⟩ := six_set (v0 := .string x0) (v1 := .slice ag ng cg) (v2 := .string x2) (v3 := .string x3) (v4 := .string x4) (v5 := .int .i64 x5) Nb
            have r0 := Nb.cellv 0 rfl
            have f0 := Nb.frozen 0
            have r1 := Nb.cellv 1 rfl
            have f1 := Nb.frozen 1
            have r2 := Nb.cellv 2 rfl
            have f2 := Nb.frozen 2
            have r3 := Nb.cellv 3 rfl
            have f3 := Nb.frozen 3
            have r4 := Nb.cellv 4 rfl
            have f4 := Nb.frozen 4
            have r5 := Nb.cellv 5 rfl
            have f5 := Nb.frozen 5
            refine AnyG.ready (rs := [7]) (by kernel_rfl) (by simp) ?_
            refine AllG.cons rfl (fun K hK => ?_) AllG.nil
            go_simp
            have T2 := N3.kept q2 hgb
            refine hK.out _ _ ⟨T2, fun _ => trivial⟩ ?_
            clear hK K r0 f0 r1 f1 r2 f2 r3 f3 r4 f4 r5 f5
            have B5 := B4.trans (q2.below B4.size (fun k e => by rw [e]; exact geb.out))
            have Ma := Na.kept q2 (hab)
            have Mc := Nc.kept q2 (fun e => hbc e.symm)
            clear N3 B4 Na Nb Nc q2
            generalize World.setCell _ _ _ = v5 at *
            have N3 := T2
            have B4 := B5
            have Nb := q1
            have Na := Ma
            have Nc := Mc
            clear T2 B5 q1 Ma Mc
            obtain ⟨q1, q2⟩ := six_set (v0 := .string x0) (v1 := .slice ag ng cg) (v2 := .string x2) (v3 := .string x3) (v4 := .string x4) (v5 := .int .i64 x5) Nc
            have r0 := Nc.cellv 0 rfl
            have f0 := Nc.frozen 0
            have r1 := Nc.cellv 1 rfl
            have f1 := Nc.frozen 1
            have r2 := Nc.cellv 2 rfl
            have f2 := Nc.frozen 2
            have r3 := Nc.cellv 3 rfl
            have f3 := Nc.frozen 3
            have r4 := Nc.cellv 4 rfl
            have f4 := Nc.frozen 4
            have r5 := Nc.cellv 5 rfl
            have f5 := Nc.frozen 5
            refine AnyG.ready (rs := [8]) (by kernel_rfl) (by simp) ?_
            refine AllG.cons rfl (fun K hK => ?_) AllG.nil
            go_simp
            have T2 := N3.kept q2 hgc
            refine hK.out _ _ ⟨T2, fun _ => trivial⟩ ?_
            clear hK K r0 f0 r1 f1 r2 f2 r3 f3 r4 f4 r5 f5
            have B5 := B4.trans (q2.below B4.size (fun k e => by rw [e]; exact gec.out))
            have Ma := Na.kept q2 (hac)
            have Mb := Nb.kept q2 (hbc)
            clear N3 B4 Na Nb Nc q2
            generalize World.setCell _ _ _ = v6 at *
            have N3 := T2
            have B4 := B5
            have Nc := q1
            have Na := Ma
            have Nb := Mb
            clear T2 B5 q1 Ma Mb
            refine AnyG.done (by kernel_rfl) ?_ _
            have HT : Hd (Tri w3 #[.string x0, .slice ag ng cg, .string x2, .string x3, .string x4, .int .i64 x5] (.pointer (some ⟨a, 0, none⟩)) (.pointer (some ⟨b, 0, none⟩)) (.pointer (some ⟨c, 0, none⟩)) v6) := ⟨⟨a, b, c, ⟨rfl, rfl, rfl⟩, ⟨hab, hbc, hac⟩, ⟨gea.out, geb.out, gec.out⟩, ⟨Na, Nb, Nc⟩, B4⟩⟩
            clear Na Nb Nc N3 B4 hab hbc hac hga hgb hgc
            go_wp2_with fail
            go_meet
            exact HT.out
        · skip
          go_simp
          have NEW := Blk.new v1 24 zB
          have T2 : Blk (v1.alloc (.cells zB 24)) g 24 #[.string x0, .slice ag ng cg, .string x2, .string x3, .string x4, .int .i64 x5] := N3.alloc _
          have B5 : Below w3.heap.size w3 (v1.alloc (.cells zB 24)) := B4.trans ((alloc_below _ _).mono B4.size)
          have geb : Hd (w3.heap.size ≤ v1.heap.size) := ⟨B4.size⟩
          have necb : Hd (c ≠ v1.heap.size) := ⟨fun e => by have := Nc.lt; omega⟩
          replace Nc := Nc.alloc (.cells zB 24)
          unfold zB at T2 B5 Nc
          refine hK.out _ _ ⟨T2, fun _ => trivial⟩ ?_
          clear hK K N3 B4
          rename Blk _ g 24 _ => N3
          rename Below _ w3 _ => B4
          unfold zB at NEW
          try simp only [tkA, tkB, tkC]
          generalize v1.alloc _ = v2 at *
          generalize v1.heap.size = b at *
          rename Blk _ b 24 _ => Nb
          refine AnyG.ready (rs := [3]) (by kernel_rfl) (by simp) ?_
          refine AllG.cons rfl (fun K hK => ?_) (AllG.nil)
          · skip
            go_simp
            have NEW := Blk.new v2 24 zB
            have T2 : Blk (v2.alloc (.cells zB 24)) g 24 #[.string x0, .slice ag ng cg, .string x2, .string x3, .string x4, .int .i64 x5] := N3.alloc _
            have B5 : Below w3.heap.size w3 (v2.alloc (.cells zB 24)) := B4.trans ((alloc_below _ _).mono B4.size)
            have gea : Hd (w3.heap.size ≤ v2.heap.size) := ⟨B4.size⟩
            have neca : Hd (c ≠ v2.heap.size) := ⟨fun e => by have := Nc.lt; omega⟩
            replace Nc := Nc.alloc (.cells zB 24)
            have neba : Hd (b ≠ v2.heap.size) := ⟨fun e => by have := Nb.lt; omega⟩
            replace Nb := Nb.alloc (.cells zB 24)
            unfold zB at T2 B5 Nc Nb
            refine hK.out _ _ ⟨T2, fun _ => trivial⟩ ?_
            clear hK K N3 B4
            rename Blk _ g 24 _ => N3
            rename Below _ w3 _ => B4
            unfold zB at NEW
            try simp only [tkA, tkB, tkC]
            generalize v2.alloc _ = v3 at *
            generalize v2.heap.size = a at *
            rename Blk _ a 24 _ => Na
            have hab : a ≠ b := fun e => neba.out e.symm
            have hbc : b ≠ c := fun e => necb.out e.symm
            have hac : a ≠ c := fun e => neca.out e.symm
            have hga : g ≠ a := fun e => by have := LT.out; have := gea.out; omega
            have hgb : g ≠ b := fun e => by have := LT.out; have := geb.out; omega
            have hgc : g ≠ c := fun e => by have := LT.out; have := gec.out; omega
            obtain ⟨q1, q2⟩ := six_set (v0 := .string x0) (v1 := .slice ag ng cg) (v2 := .string x2) (v3 := .string x3) (v4 := .string x4) (v5 := .int .i64 x5) Na
            have r0 := Na.cellv 0 rfl
            have f0 := Na.frozen 0
            have r1 := Na.cellv 1 rfl
            have f1 := Na.frozen 1
            have r2 := Na.cellv 2 rfl
            have f2 := Na.frozen 2
            have r3 := Na.cellv 3 rfl
            have f3 := Na.frozen 3
            have r4 := Na.cellv 4 rfl
            have f4 := Na.frozen 4
            have r5 := Na.cellv 5 rfl
            have f5 := Na.frozen 5
            refine AnyG.ready (rs := [6]) (by kernel_rfl) (by simp) ?_
            refine AllG.cons rfl (fun K hK => ?_) AllG.nil
            go_simp
            have T2 := N3.kept q2 hga
            refine hK.out _ _ ⟨T2, fun _ => trivial⟩ ?_
            clear hK K r0 f0 r1 f1 r2 f2 r3 f3 r4 f4 r5 f5
            have B5 := B4.trans (q2.below B4.size (fun k e => by rw [e]; exact gea.out))
            have Mb := Nb.kept q2 (fun e => hab e.symm)
            have Mc := Nc.kept q2 (fun e => hac e.symm)
            clear N3 B4 Na Nb Nc q2
            generalize World.setCell _ _ _ = v4 at *
            have N3 := T2
            have B4 := B5
            have Na := q1
            have Nb := Mb
            have Nc := Mc
            clear T2 B5 q1 Mb Mc
            obtain ⟨q1, q2⟩ := six_set (v0 := .string x0) (v1 := .slice ag ng cg) (v2 := .string x2) (v3 := .string x3) (v4 := .string x4) (v5 := .int .i64 x5) Nb
            have r0 := Nb.cellv 0 rfl
            have f0 := Nb.frozen 0
            have r1 := Nb.cellv 1 rfl
            have f1 := Nb.frozen 1
            have r2 := Nb.cellv 2 rfl
            have f2 := Nb.frozen 2
            have r3 := Nb.cellv 3 rfl
            have f3 := Nb.frozen 3
            have r4 := Nb.cellv 4 rfl
            have f4 := Nb.frozen 4
            have r5 := Nb.cellv 5 rfl
            have f5 := Nb.frozen 5
            refine AnyG.ready (rs := [7]) (by kernel_rfl) (by simp) ?_
            refine AllG.cons rfl (fun K hK => ?_) AllG.nil
            go_simp
            have T2 := N3.kept q2 hgb
            refine hK.out _ _ ⟨T2, fun _ => trivial⟩ ?_
            clear hK K r0 f0 r1 f1 r2 f2 r3 f3 r4 f4 r5 f5
            have B5 := B4.trans (q2.below B4.size (fun k e => by rw [e]; exact geb.out))
            have Ma := Na.kept q2 (hab)
            have Mc := Nc.kept q2 (fun e => hbc e.symm)
            clear N3 B4 Na Nb Nc q2
            generalize World.setCell _ _ _ = v5 at *
            have N3 := T2
            have B4 := B5
            have Nb := q1
            have Na := Ma
            have Nc := Mc
            clear T2 B5 q1 Ma Mc
            obtain ⟨q1, q2⟩ := six_set (v0 := .string x0) (v1 := .slice ag ng cg) (v2 := .string x2) (v3 := .string x3) (v4 := .string x4) (v5 := .int .i64 x5) Nc
            have r0 := Nc.cellv 0 rfl
            have f0 := Nc.frozen 0
            have r1 := Nc.cellv 1 rfl
            have f1 := Nc.frozen 1
            have r2 := Nc.cellv 2 rfl
            have f2 := Nc.frozen 2
            have r3 := Nc.cellv 3 rfl
            have f3 := Nc.frozen 3
            have r4 := Nc.cellv 4 rfl
            have f4 := Nc.frozen 4
            have r5 := Nc.cellv 5 rfl
            have f5 := Nc.frozen 5
            refine AnyG.ready (rs := [8]) (by kernel_rfl) (by simp) ?_
            refine AllG.cons rfl (fun K hK => ?_) AllG.nil
            go_simp
            have T2 := N3.kept q2 hgc
            refine hK.out _ _ ⟨T2, fun _ => trivial⟩ ?_
            clear hK K r0 f0 r1 f1 r2 f2 r3 f3 r4 f4 r5 f5
            have B5 := B4.trans (q2.below B4.size (fun k e => by rw [e]; exact gec.out))
            have Ma := Na.kept q2 (hac)
            have Mb := Nb.kept q2 (hbc)
            clear N3 B4 Na Nb Nc q2
            generalize World.setCell _ _ _ = v6 at *
            have N3 := T2
            have B4 := B5
            have Nc := q1
            have Na := Ma
            have Nb := Mb
            clear T2 B5 q1 Ma Mb
            refine AnyG.done (by kernel_rfl) ?_ _
            have HT : Hd (Tri w3 #[.string x0, .slice ag ng cg, .string x2, .string x3, .string x4, .int .i64 x5] (.pointer (some ⟨a, 0, none⟩)) (.pointer (some ⟨b, 0, none⟩)) (.pointer (some ⟨c, 0, none⟩)) v6) := ⟨⟨a, b, c, ⟨rfl, rfl, rfl⟩, ⟨hab, hbc, hac⟩, ⟨gea.out, geb.out, gec.out⟩, ⟨Na, Nb, Nc⟩, B4⟩⟩
            clear Na Nb Nc N3 B4 hab hbc hac hga hgb hgc
            go_wp2_with fail
            go_meet
            exact HT.out
    case rest =>
      obtain ⟨a, b, c, ⟨rfl, rfl, rfl⟩, ⟨hab, hbc, hac⟩, ⟨ga, gb, gc⟩, ⟨Na, Nb, Nc⟩, B4⟩ := hcut.ex
      clear hcut
      have a2 := Na.cellv (v := .string x2) 2 rfl
      have fa := Na.frozen 2
      have b2 := Nb.cellv (v := .string x2) 2 rfl
      have fb := Nb.frozen 2
      have c2 := Nc.cellv (v := .string x2) 2 rfl
      have fc := Nc.frozen 2
      have Ma : Blk (((wc.setCell ⟨a, 2, none⟩ (.string ⟨#[108, 105, 115, 116]⟩)).setCell ⟨b, 2, none⟩ (.string ⟨#[100, 101, 108, 101, 116, 101, 99, 111, 108, 108, 101, 99, 116, 105, 111, 110]⟩)).setCell ⟨c, 2, none⟩ (.string ⟨#[103, 101, 116]⟩)) a 24 #[.string x0, .slice ag ng cg, .string ⟨#[108, 105, 115, 116]⟩, .string x3, .string x4, .int .i64 x5] := ((Na.set 2 _).other (p := ⟨b, 2, none⟩) hab _).other (p := ⟨c, 2, none⟩) hac _
      have Mb : Blk (((wc.setCell ⟨a, 2, none⟩ (.string ⟨#[108, 105, 115, 116]⟩)).setCell ⟨b, 2, none⟩ (.string ⟨#[100, 101, 108, 101, 116, 101, 99, 111, 108, 108, 101, 99, 116, 105, 111, 110]⟩)).setCell ⟨c, 2, none⟩ (.string ⟨#[103, 101, 116]⟩)) b 24 #[.string x0, .slice ag ng cg, .string ⟨#[100, 101, 108, 101, 116, 101, 99, 111, 108, 108, 101, 99, 116, 105, 111, 110]⟩, .string x3, .string x4, .int .i64 x5] := ((Nb.other (p := ⟨a, 2, none⟩) (fun e => hab e.symm) _).set 2 _).other (p := ⟨c, 2, none⟩) hbc _
      have Mc : Blk (((wc.setCell ⟨a, 2, none⟩ (.string ⟨#[108, 105, 115, 116]⟩)).setCell ⟨b, 2, none⟩ (.string ⟨#[100, 101, 108, 101, 116, 101, 99, 111, 108, 108, 101, 99, 116, 105, 111, 110]⟩)).setCell ⟨c, 2, none⟩ (.string ⟨#[103, 101, 116]⟩)) c 24 #[.string x0, .slice ag ng cg, .string ⟨#[103, 101, 116]⟩, .string x3, .string x4, .int .i64 x5] := ((Nc.other (p := ⟨a, 2, none⟩) (fun e => hac e.symm) _).other (p := ⟨b, 2, none⟩) (fun e => hbc e.symm) _).set 2 _
      have LE : w1.heap.size ≤ w3.heap.size := B3.out.size
      have B5 : Below w1.heap.size w1 (((wc.setCell ⟨a, 2, none⟩ (.string ⟨#[108, 105, 115, 116]⟩)).setCell ⟨b, 2, none⟩ (.string ⟨#[100, 101, 108, 101, 116, 101, 99, 111, 108, 108, 101, 99, 116, 105, 111, 110]⟩)).setCell ⟨c, 2, none⟩ (.string ⟨#[103, 101, 116]⟩)) := (((B3.out.trans (B4.mono LE)).setCell (p := ⟨a, 2, none⟩) (Nat.le_trans LE ga) _).setCell (p := ⟨b, 2, none⟩) (Nat.le_trans LE gb) _).setCell (p := ⟨c, 2, none⟩) (Nat.le_trans LE gc) _
      have HB5 : Hd (_ ∧ _ ∧ _ ∧ _) := ⟨Ma, Mb, Mc, B5⟩
      clear Ma Mb Mc B5 Na Nb Nc B4 ga gb gc LE
      go_upto_region 7 with fail
      clear a2 fa b2 fb c2 fc hab hbc hac
      generalize World.setCell _ _ _ = w5 at *
      obtain ⟨Ma, Mb, Mc, B5⟩ := HB5.out
      clear HB5
      have d0 := Ma.cellv (v := .string x0) 0 rfl
      have d1 := Ma.cellv (v := .slice ag ng cg) 1 rfl
      have d2 := Ma.cellv (v := .string ⟨#[108, 105, 115, 116]⟩) 2 rfl
      have d3 := Ma.cellv (v := .string x3) 3 rfl
      have d4 := Ma.cellv (v := .string x4) 4 rfl
      have d5 := Ma.cellv (v := .int .i64 x5) 5 rfl
      go_upto_region 8 with fail
      clear d0 d1 d2 d3 d4 d5
      have N6 := Blk.new w5 24 #[.string x0, .slice ag ng cg, .string ⟨#[108, 105, 115, 116]⟩, .string x3, .string x4, .int .i64 x5]
      have HX : Hd ((Blk (w5.alloc (.cells #[.string x0, .slice ag ng cg, .string ⟨#[108, 105, 115, 116]⟩, .string x3, .string x4, .int .i64 x5] 24)) a 24 #[.string x0, .slice ag ng cg, .string ⟨#[108, 105, 115, 116]⟩, .string x3, .string x4, .int .i64 x5] ∧ Blk (w5.alloc (.cells #[.string x0, .slice ag ng cg, .string ⟨#[108, 105, 115, 116]⟩, .string x3, .string x4, .int .i64 x5] 24)) b 24 #[.string x0, .slice ag ng cg, .string ⟨#[100, 101, 108, 101, 116, 101, 99, 111, 108, 108, 101, 99, 116, 105, 111, 110]⟩, .string x3, .string x4, .int .i64 x5] ∧ Blk (w5.alloc (.cells #[.string x0, .slice ag ng cg, .string ⟨#[108, 105, 115, 116]⟩, .string x3, .string x4, .int .i64 x5] 24)) c 24 #[.string x0, .slice ag ng cg, .string ⟨#[103, 101, 116]⟩, .string x3, .string x4, .int .i64 x5]) ∧ Below w1.heap.size w1 (w5.alloc (.cells #[.string x0, .slice ag ng cg, .string ⟨#[108, 105, 115, 116]⟩, .string x3, .string x4, .int .i64 x5] 24)) ∧ w1.heap.size ≤ w5.heap.size ∧ a ≠ w5.heap.size ∧ b ≠ w5.heap.size ∧ c ≠ w5.heap.size) := ⟨⟨Ma.alloc _, Mb.alloc _, Mc.alloc _⟩, B5.trans ((alloc_below _ _).mono B5.size), B5.size, fun e => by have := Ma.lt; omega, fun e => by have := Mb.lt; omega, fun e => by have := Mc.lt; omega⟩
      clear Ma Mb Mc B5
      generalize w5.alloc _ = w6 at *
      generalize w5.heap.size = d at *
      have d4 := N6.cellv (v := .string x4) 4 rfl
      have f4 := N6.frozen 4
      have HY : Hd ((Blk (w6.setCell ⟨d, 4, none⟩ (.string ⟨#[]⟩)) a 24 #[.string x0, .slice ag ng cg, .string ⟨#[108, 105, 115, 116]⟩, .string x3, .string x4, .int .i64 x5] ∧ Blk (w6.setCell ⟨d, 4, none⟩ (.string ⟨#[]⟩)) b 24 #[.string x0, .slice ag ng cg, .string ⟨#[100, 101, 108, 101, 116, 101, 99, 111, 108, 108, 101, 99, 116, 105, 111, 110]⟩, .string x3, .string x4, .int .i64 x5] ∧ Blk (w6.setCell ⟨d, 4, none⟩ (.string ⟨#[]⟩)) c 24 #[.string x0, .slice ag ng cg, .string ⟨#[103, 101, 116]⟩, .string x3, .string x4, .int .i64 x5] ∧ Blk (w6.setCell ⟨d, 4, none⟩ (.string ⟨#[]⟩)) d 24 #[.string x0, .slice ag ng cg, .string ⟨#[108, 105, 115, 116]⟩, .string x3, .string ⟨#[]⟩, .int .i64 x5]) ∧ Below w1.heap.size w1 (w6.setCell ⟨d, 4, none⟩ (.string ⟨#[]⟩))) := ⟨by
        obtain ⟨⟨h1, h2, h3⟩, h4, h5, h6, h7, h8⟩ := HX.out
        exact ⟨⟨h1.other (p := ⟨d, 4, none⟩) h6 _, h2.other (p := ⟨d, 4, none⟩) h7 _, h3.other (p := ⟨d, 4, none⟩) h8 _, N6.set 4 _⟩, h4.setCell (p := ⟨d, 4, none⟩) h5 _⟩⟩
      clear N6 HX
      go_upto_region 9 with fail
      clear d4 f4
      generalize w6.setCell _ _ = w7 at *
      have HZ : Hd (∀ W, Below w7.heap.size w7 W → (Blk W a 24 #[.string x0, .slice ag ng cg, .string ⟨#[108, 105, 115, 116]⟩, .string x3, .string x4, .int .i64 x5] ∧ Blk W b 24 #[.string x0, .slice ag ng cg, .string ⟨#[100, 101, 108, 101, 116, 101, 99, 111, 108, 108, 101, 99, 116, 105, 111, 110]⟩, .string x3, .string x4, .int .i64 x5] ∧ Blk W c 24 #[.string x0, .slice ag ng cg, .string ⟨#[103, 101, 116]⟩, .string x3, .string x4, .int .i64 x5] ∧ Blk W d 24 #[.string x0, .slice ag ng cg, .string ⟨#[108, 105, 115, 116]⟩, .string x3, .string ⟨#[]⟩, .int .i64 x5]) ∧ Below g w W) := ⟨fun W bb => by
        obtain ⟨⟨h1, h2, h3, h4⟩, h5⟩ := HY.out
        have k := Kept.of_below bb (fun _ => False)
        exact ⟨⟨h1.kept k id, h2.kept k id, h3.kept k id, h4.kept k id⟩, (HW.out W (h5.trans (bb.mono h5.size))).2⟩⟩
      clear HY HW B3
      go_upto_region 10 with fail
      obtain ⟨⟨h1, -⟩, -⟩ := HZ.out w7 (Below.refl _ _)
      have d0 := h1.cellv (v := .string x0) 0 rfl
      have d1 := h1.cellv (v := .slice ag ng cg) 1 rfl
      have d2 := h1.cellv (v := .string ⟨#[108, 105, 115, 116]⟩) 2 rfl
      have d3 := h1.cellv (v := .string x3) 3 rfl
      have d4 := h1.cellv (v := .string x4) 4 rfl
      have d5 := h1.cellv (v := .int .i64 x5) 5 rfl
      have M := HL.out w7
      clear h1 HL
      go_upto_region 11 with (go_at_call 8; refine M.mono ?_; rintro e w8 ⟨rfl, b8⟩)
      have B8 : Hd (Below w7.heap.size w7 w8) := ⟨b8⟩
      clear M b8 d0 d1 d2 d3 d4 d5
      obtain ⟨⟨-, h1, -⟩, -⟩ := HZ.out w8 B8.out
      have d0 := h1.cellv (v := .string x0) 0 rfl
      have d1 := h1.cellv (v := .slice ag ng cg) 1 rfl
      have d2 := h1.cellv (v := .string ⟨#[100, 101, 108, 101, 116, 101, 99, 111, 108, 108, 101, 99, 116, 105, 111, 110]⟩) 2 rfl
      have d3 := h1.cellv (v := .string x3) 3 rfl
      have d4 := h1.cellv (v := .string x4) 4 rfl
      have d5 := h1.cellv (v := .int .i64 x5) 5 rfl
      have M := HD.out w8
      clear h1 HD
      go_wp2_with fail
      go_at_call 8
      refine M.mono ?_
      rintro e w9 ⟨rfl, b9⟩
      have B9 : Hd (Below w7.heap.size w7 w9) := ⟨B8.out.trans (b9.mono B8.out.size)⟩
      clear M b9 B8 d0 d1 d2 d3 d4 d5
      obtain ⟨⟨-, -, -, h1⟩, -⟩ := HZ.out w9 B9.out
      have d0 := h1.cellv (v := .string x0) 0 rfl
      have d1 := h1.cellv (v := .slice ag ng cg) 1 rfl
      have d2 := h1.cellv (v := .string ⟨#[108, 105, 115, 116]⟩) 2 rfl
      have d3 := h1.cellv (v := .string x3) 3 rfl
      have d4 := h1.cellv (v := .string ⟨#[]⟩) 4 rfl
      have d5 := h1.cellv (v := .int .i64 x5) 5 rfl
      have M := HV.out w9
      clear h1 HV
      have g1 : (z1 == min (z + 1) (min (max most 1) 16)) = true := by simpa using m1
      have g2 : decide (z ≤ z2) = true := by simpa using m2
      clear m1 m2
      go_wp2_with fail
      go_at_call 8
      refine M.mono ?_
      rintro e w10 ⟨rfl, b10⟩
      have B10 : Hd (Below w7.heap.size w7 w10) := ⟨B9.out.trans (b10.mono B9.out.size)⟩
      clear M b10 B9 d0 d1 d2 d3 d4 d5
      obtain ⟨⟨-, -, h1, -⟩, -⟩ := HZ.out w10 B10.out
      have d0 := h1.cellv (v := .string x0) 0 rfl
      have d1 := h1.cellv (v := .slice ag ng cg) 1 rfl
      have d2 := h1.cellv (v := .string ⟨#[103, 101, 116]⟩) 2 rfl
      have d3 := h1.cellv (v := .string x3) 3 rfl
      have d4 := h1.cellv (v := .string x4) 4 rfl
      have d5 := h1.cellv (v := .int .i64 x5) 5 rfl
      have M := HO.out w10
      clear h1 HO
      go_wp2_with fail
      go_at_call 8
      refine M.mono ?_
      rintro e w11 ⟨rfl, b11⟩
      have B11 : Hd (Below w7.heap.size w7 w11) := ⟨B10.out.trans (b11.mono B10.out.size)⟩
      clear M b11 B10 d0 d1 d2 d3 d4 d5
      have HF : Hd (Below w.heap.size w w11) := ⟨by rw [← HG.out]; exact (HZ.out w11 B11.out).2⟩
      clear HZ B11
      go_wp2_with fail
      go_ret
      exact ⟨rfl, HF.out⟩
end Go.Proofs.Ytajceffbpobglaa
