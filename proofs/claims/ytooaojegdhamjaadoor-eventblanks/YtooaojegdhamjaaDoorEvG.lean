/-
  What 'Read' of the program answers. Condition: the line has at most 2^31 bytes.
-/
import Derived.Test.YtooaojegdhamjaaDoorEvF
import Derived.Test.YtooaojegdhamjaaDoorEvR
import Derived.Test.YtooaojegdhamjaaDoorLawC
import Derived.Deep.RegionHeld
namespace Go.Proofs.YtooaojegdhamjaaDoor
open Go.RowKit Go.Lib

theorem res9 (tmps : Array Value) (w : World) (g : Nat) (x : Int) {c0 c1 c2 c3 c4 c5 c6 c7 c8 c9 : Value} (ht : tmps[2]?.getD undef = .pointer (some ⟨g, 0, none⟩)) (hx : tmps[3]?.getD undef = .int .i64 x) (h : Blk w g 26 #[c0, c1, c2, c3, c4, c5, c6, c7, c8, c9]) :
    (results Tryd.f9 tmps).run Tryd.prog w = .ok (.tuple #[.agg #[c0, c1, c2, c3, c4, c5, c6, c7, c8, c9], .int .i64 x]) w := by
  obtain ⟨⟨r0, r1, r2, r3, r4, r5, r6, r7, r8, r9⟩, -⟩ := h.ten
  simp [results, Tryd.results9, go_sem, ht, hx, r0, r1, r2, r3, r4, r5, r6, r7, r8, r9]
theorem Blk.drew {w : World} {b t : Nat} {cs : Array Value} (h : Blk w b t cs) : Blk w.drew b t cs := h
theorem word_len {l x : List UInt8} (h : x ∈ wordsL l) : x.length ≤ l.length := piece_le 32 l x (List.mem_filter.1 h).1
theorem words_sh {l : List UInt8} (h : l.length < 4294967281) : ShB ((wordsL l).map mk) := fun k => by
  by_cases hk : k < ((wordsL l).map mk).length
  · have hm := gt_mem hk
    obtain ⟨x, hx, e⟩ := List.mem_map.1 hm
    rw [← e, ← size_list, mk_list]
    have := word_len hx
    omega
  · rw [gt_far (by omega)]
    decide
theorem rsL_len (l : List UInt8) : (rsL l).length ≤ l.length := by have := part_len l; omega
theorem words_few (l : List UInt8) (h : l.length < 4294967281) : ((wordsL l).map mk).length ≤ 9223372036854775807 := by
  have := words_count (mk l)
  unfold wordsB at this
  rw [mk_list, ← size_list, mk_list] at this
  omega
/-- What is answered of a line. -/
def ReadP (w : World) (l : List UInt8) : Ending → World → Prop := fun q w' => ∃ a c, q = .returned (.tuple #[evV (rdE l) a c, .int .i64 (rdX l)]) ∧ (RowL w' a (rdE l).g ∧ (rdE l).g.length ≤ c) ∧ Below w.heap.size w w'

theorem read_load (s : ByteArray) (w : World) (hs : s.size < 4294967281) (hl : mk (fsL s.data.toList) = wLoad) :
    Calls Tryd.prog 9 #[.string s] w (ReadP w s.data.toList) := by
  have e1 : rdE s.data.toList = loadE (mk (mpL 59 10 (rsL s.data.toList))) ∧ rdX s.data.toList = 0 := by unfold rdE rdX; rw [if_pos hl, if_pos hl]; exact ⟨rfl, rfl⟩
  have E1 := Hd.mk e1
  unfold ReadP
  rw [e1.1, e1.2]
  have ht : (mk (trL s.data.toList)).size < 4294967281 := by rw [← size_list, mk_list]; have := trL_len s.data.toList; rw [size_list] at this; omega
  have hr : (mk (rsL s.data.toList)).size < 4294967281 := by rw [← size_list, mk_list]; have := rsL_len s.data.toList; rw [size_list] at this; omega
  have CC := Hd.mk (fun v => cut_ok (mk (trL s.data.toList)) 32 v ht)
  rw [mk_list] at CC
  have C2 : Hd (∀ v, Calls Tryd.prog 14 #[.string (mk (trL s.data.toList)), .string ⟨#[32]⟩] v fun e w' => ∃ b, e = .returned (.tuple #[.string ⟨#[108, 111, 97, 100]⟩, .string (mk (rsL s.data.toList)), .bool b]) ∧ Below v.heap.size v w') := ⟨fun v => by
    have := CC.out v
    rw [show cutA 32 (trL s.data.toList) = fsL s.data.toList from rfl, hl] at this
    exact this⟩
  have RR := Hd.mk (fun v => replAll_ok 59 10 (by decide) (mk (rsL s.data.toList)) v hr)
  rw [mk_list] at RR
  have TT := Hd.mk (fun v => trim_ok s v)
  clear CC hl e1 E1 hs ht hr
  generalize mk (trL s.data.toList) = t at *
  generalize mk (mpL 59 10 (rsL s.data.toList)) = y at *
  generalize mk (rsL s.data.toList) = x at *
  obtain ⟨w1, hw1⟩ : ∃ w1, w1 = w.alloc (.cells #[.int .i64 0, .int .i64 0, .int .i64 0, .string ⟨#[]⟩, .slice none 0 0, .string ⟨#[]⟩, .string ⟨#[]⟩, .string ⟨#[]⟩, .int .i64 0, .string ⟨#[]⟩] 26) := ⟨_, rfl⟩
  have b1 : Below w.heap.size w w1 := by rw [hw1]; exact alloc_below _ _
  have n1 : Blk w1 w.heap.size 26 #[.int .i64 0, .int .i64 0, .int .i64 0, .string ⟨#[]⟩, .slice none 0 0, .string ⟨#[]⟩, .string ⟨#[]⟩, .string ⟨#[]⟩, .int .i64 0, .string ⟨#[]⟩] := by rw [hw1]; exact Blk.new _ _ _
  have B1 := Hd.mk b1
  have N1 := Hd.mk n1
  clear b1 n1
  generalize hg : w.heap.size = g at *
  go_enter Tryd.func9, Tryd.ntmps9
  go_wp2_with fail
  rw [← hw1]
  clear hw1
  go_at_call 15
  refine (TT.out w1).mono ?_
  rintro q v0 ⟨rfl, hv⟩
  obtain rfl := hv.symm
  go_wp2_with fail
  go_at_call 14
  refine (C2.out w1).mono ?_
  rintro q v1 ⟨b, rfl, hb⟩
  have B2 := Hd.mk hb
  clear hb
  go_wp2_with fail
  go_at_call 16
  refine (RR.out v1).mono ?_
  rintro q v2 ⟨rfl, hb⟩
  have B3 := Hd.mk (B2.out.trans (hb.mono (by exact B2.out.size)))
  clear hb
  have Z := Hd.mk (N1.out.kept (Kept.of_below B3.out (fun _ => False)) id)
  obtain ⟨⟨r0, r1, r2, r3, r4, r5, r6, r7, r8, r9⟩, f0, f1, f2, f3, f4, f5, f6, f7, f8, f9⟩ := Z.out.ten
  obtain ⟨z1, z2⟩ := ten_set (v0 := .int .i64 5) (v1 := .int .i64 0) (v2 := .int .i64 0) (v3 := .string ⟨#[]⟩) (v4 := .slice none 0 0) (v5 := .string ⟨#[]⟩) (v6 := .string ⟨#[]⟩) (v7 := .string ⟨#[]⟩) (v8 := .int .i64 0) (v9 := .string y) Z.out
  have Y1 := Hd.mk z1
  have Y2 := Hd.mk z2
  clear z1 z2
  go_wp2_with fail
  refine bodyPost_ret (res9 _ _ g 0 rfl rfl Y1.out) rfl ?_
  refine ⟨none, 0, rfl, ⟨fun h => absurd h (Nat.lt_irrefl 0), Nat.le_refl 0⟩, ?_⟩
  have k := (Kept.of_below B3.out (At g)).trans Y2.out
  have k2 := (Kept.of_below (hg ▸ B1.out) (At g)).trans k
  exact k2.below (by omega) (fun j (h : j = g) => by omega)

set_option maxHeartbeats 1000000 in
theorem read_event (s : ByteArray) (w : World) (hs : s.size < 4294967281) (hl : mk (fsL s.data.toList) ≠ wLoad) :
    Calls Tryd.prog 9 #[.string s] w (ReadP w s.data.toList) := by
  have e1 : rdE s.data.toList = gate (evE (mk (fsL s.data.toList)) ((wordsL (rsL s.data.toList)).map mk)) (evX (mk (fsL s.data.toList)) ((wordsL (rsL s.data.toList)).map mk)) ∧ rdX s.data.toList = evX (mk (fsL s.data.toList)) ((wordsL (rsL s.data.toList)).map mk) := by unfold rdE rdX; rw [if_neg hl, if_neg hl]; exact ⟨rfl, rfl⟩
  unfold ReadP
  rw [e1.1, e1.2]
  have ht : (mk (trL s.data.toList)).size < 4294967281 := by rw [← size_list, mk_list]; have := trL_len s.data.toList; rw [size_list] at this; omega
  have hrl : (rsL s.data.toList).length < 4294967281 := by have := rsL_len s.data.toList; rw [size_list] at this; omega
  have hr : (mk (rsL s.data.toList)).size ≤ 4294967296 := by rw [← size_list, mk_list]; omega
  have hsh := words_sh hrl
  have hfew := words_few _ hrl
  have CC := Hd.mk (fun v => cut_ok (mk (trL s.data.toList)) 32 v ht)
  rw [mk_list] at CC
  have C2 : Hd (∀ v, Calls Tryd.prog 14 #[.string (mk (trL s.data.toList)), .string ⟨#[32]⟩] v fun e w' => ∃ b, e = .returned (.tuple #[.string (mk (fsL s.data.toList)), .string (mk (rsL s.data.toList)), .bool b]) ∧ Below v.heap.size v w') := ⟨CC.out⟩
  have RR := Hd.mk (fun v => words_ok (mk (rsL s.data.toList)) v hr)
  unfold wordsB at RR
  rw [mk_list] at RR
  have TT := Hd.mk (fun v => trim_ok s v)
  have d0 := f_no hl
  have SH := Hd.mk hsh
  have FW := Hd.mk hfew
  clear CC hl e1 hs ht hr hrl hsh hfew
  generalize mk (trL s.data.toList) = t at *
  generalize mk (fsL s.data.toList) = f at *
  generalize (wordsL (rsL s.data.toList)).map mk = L at *
  generalize mk (rsL s.data.toList) = x at *
  have HG : Hd (gate (evE f L) (evX f L) = gate (evE f L) (evX f L)) := ⟨rfl⟩
  obtain ⟨w1, hw1⟩ : ∃ w1, w1 = w.alloc (.cells #[.int .i64 0, .int .i64 0, .int .i64 0, .string ⟨#[]⟩, .slice none 0 0, .string ⟨#[]⟩, .string ⟨#[]⟩, .string ⟨#[]⟩, .int .i64 0, .string ⟨#[]⟩] 26) := ⟨_, rfl⟩
  have b1 : Below w.heap.size w w1 := by rw [hw1]; exact alloc_below _ _
  have n1 : Blk w1 w.heap.size 26 #[.int .i64 0, .int .i64 0, .int .i64 0, .string ⟨#[]⟩, .slice none 0 0, .string ⟨#[]⟩, .string ⟨#[]⟩, .string ⟨#[]⟩, .int .i64 0, .string ⟨#[]⟩] := by rw [hw1]; exact Blk.new _ _ _
  have B1 := Hd.mk b1
  have N1 := Hd.mk n1
  clear b1 n1
  generalize hg : w.heap.size = g at *
  go_enter Tryd.func9, Tryd.ntmps9
  go_wp2_with fail
  rw [← hw1]
  clear hw1
  go_at_call 15
  refine (TT.out w1).mono ?_
  rintro q v0 ⟨rfl, hv⟩
  obtain rfl := hv.symm
  go_wp2_with fail
  go_at_call 14
  refine (C2.out w1).mono ?_
  rintro q v1 ⟨b, rfl, hb⟩
  have B2 := Hd.mk hb
  clear hb
  go_wp2_with fail
  go_at_call 17
  refine (RR.out v1).mono ?_
  rintro q v2 ⟨a, rfl, hr, hb, ha⟩
  have B3 := Hd.mk (B2.out.trans (hb.mono (by exact B2.out.size)))
  have HR := Hd.mk hr
  have HA := Hd.mk ha
  have Z2 := Hd.mk (N1.out.kept (Kept.of_below B3.out (fun _ => False)) id)
  clear hb hr ha
  generalize hm : L.length = m at *
  have HM := Hd.mk hm
  clear hm
  obtain ⟨v3, hv3⟩ : ∃ v3, v3 = v2.alloc (.cells #[.slice a m m, .int .i64 0] 46) := ⟨_, rfl⟩
  have b3 : Below v2.heap.size v2 v3 := by rw [hv3]; exact alloc_below _ _
  have rd : RdS v3 v2.heap.size L 0 := ⟨⟨a, by rw [HM.out, hv3]; exact Blk.new _ _ _, HR.out.carry b3, HA.out⟩, SH.out, by rw [HM.out]; exact FW.out⟩
  have ev := event_rd v3 v2.heap.size L f rd
  have Z3 := Hd.mk (Z2.out.kept (Kept.of_below b3 (fun _ => False)) id)
  have B4 := Hd.mk (B3.out.trans (b3.mono (by exact B3.out.size)))
  have HV : Hd (v3.heap.size = v2.heap.size + 1) := ⟨by rw [hv3]; simp⟩
  have hgp : g < v2.heap.size := Z2.out.lt
  have HGP := Hd.mk hgp
  clear b3 rd hgp Z2 B3 HR HA B2
  go_wp2_with fail
  rw [← hv3]
  clear hv3
  have HL : Hd (v2.heap.size = v2.heap.size) := ⟨rfl⟩
  generalize v2.heap.size = p at *
  go_at_call 18
  refine ev.mono ?_
  rintro q v4 ⟨a2, c2, rfl, ⟨hr2, hc2, hn2⟩, M, hrd, kk⟩
  have Z4 := Hd.mk (Z3.out.kept kk (fun h : g = p => by have := HGP.out; omega))
  have K4 := Hd.mk kk
  obtain ⟨a3, hb3, -, -⟩ := hrd.ex
  have R4 := Hd.mk hr2
  have C4 := Hd.mk hc2
  have P4 := Hd.mk hb3
  clear hr2 hc2 hrd kk ev hb3
  have NN : Hd (∀ b off, a2 = some ⟨b, off, none⟩ → g < b) := ⟨fun b off e => by have := hn2 b off e; have := HV.out; have := HGP.out; omega⟩
  clear hn2
  generalize hE : evE f L = E at *
  generalize hX0 : evX f L = X at *
  have HE := Hd.mk hE
  have HX := Hd.mk hX0
  clear hE hX0
  unfold evV evA
  generalize hn : E.g.length = n at *
  have HN := Hd.mk hn
  clear hn
  have Kb : ∀ o : Obj, Below v4.heap.size v4 (v4.alloc o) := alloc_below v4
  obtain ⟨v5, hv5⟩ : ∃ v5, v5 = v4.alloc (.cells #[.int .i64 E.k, .int .i64 E.i, .int .i64 E.n, .string E.u, .slice a2 n c2, .string E.v, .string E.r, .string E.s, .int .i64 E.o, .string E.t] 26) := ⟨_, rfl⟩
  have b5 : Below v4.heap.size v4 v5 := by rw [hv5]; exact alloc_below _ _
  have n5 : Blk v5 v4.heap.size 26 #[.int .i64 E.k, .int .i64 E.i, .int .i64 E.n, .string E.u, .slice a2 n c2, .string E.v, .string E.r, .string E.s, .int .i64 E.o, .string E.t] := by rw [hv5]; exact Blk.new _ _ _
  have N5 := Hd.mk n5
  have B5 := Hd.mk b5
  have p5 := P4.out.kept (Kept.of_below b5 (fun _ => False)) id
  have z5 := Z4.out.kept (Kept.of_below b5 (fun _ => False)) id
  have e5 := p5.cellv 1 rfl
  obtain ⟨⟨r0, r1, r2, r3, r4, r5, r6, r7, r8, r9⟩, f0, f1, f2, f3, f4, f5, f6, f7, f8, f9⟩ := z5.ten
  have Z5 := Hd.mk z5
  have P5 := Hd.mk p5
  clear n5 b5 p5 z5 Kb
  have KF := (Kept.of_below B4.out (fun j => j = p)).trans K4.out
  go_upto_region 6 with fail
  rw [← hv5]
  clear hv5
  by_cases hX : X = 0
  · subst hX
    obtain ⟨⟨s0, s1, s2, s3, s4, s5, s6, s7, s8, s9⟩, -⟩ := N5.out.ten
    obtain ⟨z1, z2⟩ := ten_set (v0 := .int .i64 E.k) (v1 := .int .i64 E.i) (v2 := .int .i64 E.n) (v3 := .string E.u) (v4 := .slice a2 n c2) (v5 := .string E.v) (v6 := .string E.r) (v7 := .string E.s) (v8 := .int .i64 E.o) (v9 := .string E.t) Z5.out
    have Y1 := Hd.mk z1
    have Y2 := Hd.mk z2
    clear z1 z2
    go_wp2_with fail
    refine bodyPost_ret (res9 _ _ g 0 rfl rfl Y1.out) rfl ?_
    have kk := ((KF.trans (Kept.of_below B5.out (fun j => j = p))).mono (T := fun j => j = p ∨ j = g) fun j _ h => .inl h).trans (Y2.out.mono fun j _ h => .inr h)
    rw [HX.out, HE.out, show gate E 0 = E from rfl]
    refine ⟨a2, c2, ?_, ⟨(R4.out.carry B5.out).kept Y2.out fun b off e (h : b = g) => ?_, by rw [HN.out]; exact C4.out⟩, ?_⟩
    · unfold evV evA
      rw [HN.out]
    · have := NN.out b off e
      omega
    · have k2 := ((Kept.of_below (hg ▸ B1.out) (fun j => j = p ∨ j = g)).trans kk)
      exact k2.below (by omega) (fun j h => by have := HGP.out; omega)
  · have dX : (X == 0) = false := by simpa using hX
    have gX : gate E X = ev0 := by unfold gate; rw [if_neg hX]
    have GX := Hd.mk gX
    clear hX gX
    go_upto_region 7 with fail
    have ed : v5.drew.cell? ⟨p, 1, none⟩ = some (.int .i64 X) := P5.out.cellv 1 rfl
    obtain ⟨z1, z2⟩ := ten_set (v0 := .int .i64 0) (v1 := .int .i64 0) (v2 := .int .i64 0) (v3 := .string ⟨#[]⟩) (v4 := .slice none 0 0) (v5 := .string ⟨#[]⟩) (v6 := .string ⟨#[]⟩) (v7 := .string ⟨#[]⟩) (v8 := .int .i64 0) (v9 := .string ⟨#[]⟩) Z5.out
    have q5 : ((((((((((v5.setCell ⟨g, 0, none⟩ (.int .i64 0)).setCell ⟨g, 1, none⟩ (.int .i64 0)).setCell ⟨g, 2, none⟩ (.int .i64 0)).setCell ⟨g, 3, none⟩ (.string ⟨#[]⟩)).setCell ⟨g, 4, none⟩ (.slice none 0 0)).setCell ⟨g, 5, none⟩ (.string ⟨#[]⟩)).setCell ⟨g, 6, none⟩ (.string ⟨#[]⟩)).setCell ⟨g, 7, none⟩ (.string ⟨#[]⟩)).setCell ⟨g, 8, none⟩ (.int .i64 0)).setCell ⟨g, 9, none⟩ (.string ⟨#[]⟩)).drew.cell? ⟨p, 1, none⟩ = some (.int .i64 X) := (Blk.drew (P5.out.kept z2 (fun h : p = g => by have := HGP.out; omega))).cellv 1 rfl
    have Y1 := Hd.mk z1
    have Y2 := Hd.mk z2
    clear z1 z2
    go_region_held (fun w' => w'.cell? ⟨p, 1, none⟩ = some (.int .i64 X)) (first | (with_reducible exact ed) | (with_reducible exact q5)) (fail)
    go_wp2_with fail
    have Y3 := Y1.out.drew
    refine bodyPost_ret (res9 _ _ g X rfl rfl Y3) rfl ?_
    have kk := (((KF.trans (Kept.of_below B5.out (fun j => j = p))).mono (T := fun j => j = p ∨ j = g) fun j _ h => .inl h).trans (Y2.out.mono fun j _ h => .inr h)).drew
    rw [HX.out, HE.out, GX.out]
    refine ⟨none, 0, rfl, ⟨fun h => absurd h (Nat.lt_irrefl 0), Nat.le_refl 0⟩, ?_⟩
    have k2 := ((Kept.of_below (hg ▸ B1.out) (fun j => j = p ∨ j = g)).trans kk)
    exact k2.below (by omega) (fun j h => by have := HGP.out; omega)
theorem read_ok (s : ByteArray) (w : World) (hs : s.size < 4294967281) : Calls Tryd.prog 9 #[.string s] w (ReadP w s.data.toList) := by
  by_cases hl : mk (fsL s.data.toList) = wLoad
  · exact read_load s w hs hl
  · exact read_event s w hs hl
end Go.Proofs.YtooaojegdhamjaaDoor
