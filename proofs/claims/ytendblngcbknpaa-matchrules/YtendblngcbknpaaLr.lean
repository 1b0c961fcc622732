/-
  'MatchRules' answers true. Condition: schema and request lie in memory.
-/
import Derived.Test.YtendblngcbknpaaOp
import Derived.Test.YtendblngcbknpaaOrQ
import Derived.Deep.CutBlock
import Derived.Deep.DeepCutAuto
namespace Go.Proofs.Ytendblngcbknpaa
open Go.RowKit

theorem q5L_oneR {w : World} {q : Q5} {r : Rl} (h : RuR w q.v0 q.v1 q.v2 q.v3 q.v4 r) : ∀ u ∈ q5L q, u.oneCell' = true := fun u hu => by
  obtain ⟨⟨a0, c0, e0, -⟩, ⟨a1, c1, e1, -⟩, ⟨a2, c2, e2, -⟩, ⟨a3, c3, e3, -⟩, ⟨a4, c4, e4, -⟩⟩ := h
  simp only [q5L, List.mem_cons, List.not_mem_nil, or_false] at hu
  rcases hu with rfl | rfl | rfl | rfl | rfl
  · rw [e0]; rfl
  · rw [e1]; rfl
  · rw [e2]; rfl
  · rw [e3]; rfl
  · rw [e4]; rfl
/-- Rules in a row of its own, whose lists lie where they were. -/
structure Bk (w2 W : World) (v : Value) (T : List Rl) : Prop where
  ex : ∃ Q : List Q5, Q.length = T.length ∧ W.ownsRow w2.heap.size 39 5 v T.length (q5C Q) ∧ ∀ k (h : k < T.length) (h' : k < Q.length), RuR w2 Q[k].v0 Q[k].v1 Q[k].v2 Q[k].v3 Q[k].v4 T[k]
theorem Bk.nil (w2 W : World) : Bk w2 W (.slice none 0 0) [] := ⟨[], rfl, ⟨rfl, .inl ⟨rfl, rfl⟩⟩, fun _ hk => absurd hk (Nat.not_lt_zero _)⟩
theorem Bk.grown {w2 W W' : World} {v : Value} {T : List Rl} (h : Bk w2 W v T) (b : Below W.heap.size W W') : Bk w2 W' v T := by
  obtain ⟨Q, h1, h2, h3⟩ := h.ex
  exact ⟨Q, h1, owns_off h2 (Kept.of_below b (fun _ => False)) (Off.none _ _), h3⟩
theorem Bk.read {w2 W : World} {v : Value} {T : List Rl} (h : Bk w2 W v T) (b : Below w2.heap.size w2 W) (f : T.length ≤ 9223372036854775807) : RlR W v T := by
  obtain ⟨Q, hQ, ho, hr⟩ := h.ex
  obtain ⟨a, c, rfl, hc, hrow⟩ := owns_read ho
  refine ⟨a, c, rfl, f, fun hn => ?_⟩
  obtain ⟨g, cur, rfl, -, hg, -, hcs⟩ := hrow hn
  refine ⟨g, 0, rfl, hg.lt, fun k hk => ?_⟩
  have hkQ : k < Q.length := by omega
  refine ⟨Q[k].v0, Q[k].v1, Q[k].v2, Q[k].v3, Q[k].v4, ⟨?_, ?_, ?_, ?_, ?_⟩, (hr k hk hkQ).carry b⟩
  · rw [Nat.zero_add]; exact hcs (k * 5) _ (by have := q5C_at Q k 0 hkQ (by decide); simpa [q5L] using this)
  · rw [Nat.zero_add]; exact hcs (k * 5 + 1) _ (by have := q5C_at Q k 1 hkQ (by decide); simpa [q5L] using this)
  · rw [Nat.zero_add]; exact hcs (k * 5 + 2) _ (by have := q5C_at Q k 2 hkQ (by decide); simpa [q5L] using this)
  · rw [Nat.zero_add]; exact hcs (k * 5 + 3) _ (by have := q5C_at Q k 3 hkQ (by decide); simpa [q5L] using this)
  · rw [Nat.zero_add]; exact hcs (k * 5 + 4) _ (by have := q5C_at Q k 4 hkQ (by decide); simpa [q5L] using this)
theorem Bk.put {w2 W : World} {v : Value} {T : List Rl} {Q : List Q5} {q : Q5} {r : Rl} (h1 : Q.length = T.length) (h3 : ∀ k (h : k < T.length) (h' : k < Q.length), RuR w2 Q[k].v0 Q[k].v1 Q[k].v2 Q[k].v3 Q[k].v4 T[k]) (hq : RuR w2 q.v0 q.v1 q.v2 q.v3 q.v4 r)
    (ho : W.ownsRow w2.heap.size 39 5 v (T.length + 1) (q5C Q ++ q5L q)) : Bk w2 W v (T ++ [r]) := by
  refine ⟨Q ++ [q], by simp [h1], by rw [q5C_append]; simpa [q5C] using ho, fun k hk hk' => ?_⟩
  by_cases hlt : k < T.length
  · have hlt' : k < Q.length := by omega
    rw [List.getElem_append_left hlt, List.getElem_append_left hlt']
    exact h3 k hlt hlt'
  · obtain rfl : k = T.length := by simp at hk; omega
    rw [List.getElem_append_right (Nat.le_refl _), List.getElem_append_right (by omega)]
    simp [h1]
    exact hq
theorem drop_at {rs : List Rl} {k : Nat} (h : k < rs.length) : rs.drop k = rs[k] :: rs.drop (k + 1) := List.drop_eq_getElem_cons h
theorem schB_drop {rs : List Rl} {q : Rq} {k : Nat} (h : k < rs.length) : schB (rs.drop k) q = (schB (rs.drop (k + 1)) q || ruleB rs[k] q) := by
  rw [drop_at h]
  unfold schB
  rw [List.any_cons, Bool.or_comm]
theorem rev_drop {rs : List Rl} {k : Nat} (h : k < rs.length) : (rs.drop k).reverse = (rs.drop (k + 1)).reverse ++ [rs[k]] := by
  rw [drop_at h, List.reverse_cons]
theorem schB_rev (rs : List Rl) (q : Rq) : schB rs.reverse q = schB rs q := by
  unfold schB
  rw [List.any_reverse]
theorem infoR : (Try.prog.info? 39).map (fun i => (i.zero, i.size, i.bytes)) = some (some (.agg #[.slice none 0 0, .slice none 0 0, .slice none 0 0, .slice none 0 0, .slice none 0 0]), 5, 120) := by kernel_rfl
theorem five_row (w : World) (u0 u1 u2 u3 u4 : Value) : ∀ j u, [u0, u1, u2, u3, u4][j]? = some u → (w.alloc (.cells #[u0, u1, u2, u3, u4] 39)).cell? (Addr.add ⟨w.heap.size, 0, none⟩ j) = some u := fun j u hu => by
  rw [Go.WideShapes.add_plain]
  have := (Blk.new w 39 #[u0, u1, u2, u3, u4]).cell (0 + j)
  rw [this]
  simpa using hu

set_option maxRecDepth 20000 in
set_option maxHeartbeats 16000000 in
theorem rules_law {ag ar : Option Addr} {ng cg nr cr : Nat} {y0 y1 : ByteArray} {y2 y3 : Int} {x0 x2 x3 x4 : ByteArray} {x5 : Int} (rs : List Rl) (L : List ByteArray) (w : World) (hs : RlR w (.slice ar nr cr) rs) (hq : RqR w (.agg #[.string x0, .slice ag ng cg, .string x2, .string x3, .string x4, .int .i64 x5]) ⟨x0, L, x2, x3, x4, x5⟩) (hz0 : y0.size ≤ 9223372036854775807) (hz1 : y1.size ≤ 9223372036854775807) :
    Calls Try.prog 5 #[.agg #[.string y0, .string y1, .int .i64 y2, .int .i64 y3, .slice ar nr cr], .agg #[.string x0, .slice ag ng cg, .string x2, .string x3, .string x4, .int .i64 x5]] w fun e w' => e = .returned (.bool true) ∧ Below w.heap.size w w' := by
  obtain ⟨w2, hw2⟩ : ∃ w2, w2 = (w.alloc (.cells #[.string y0, .string y1, .int .i64 y2, .int .i64 y3, .slice ar nr cr] 24)).alloc (.cells #[.string x0, .slice ag ng cg, .string x2, .string x3, .string x4, .int .i64 x5] 27) := ⟨_, rfl⟩
  have BX := boxes w 24 27 #[.string y0, .string y1, .int .i64 y2, .int .i64 y3, .slice ar nr cr] #[.string x0, .slice ag ng cg, .string x2, .string x3, .string x4, .int .i64 x5]
  rw [← hw2] at BX
  obtain ⟨B, N1, N2⟩ := BX
  have HW : Hd (∀ W, Below w2.heap.size w2 W → Blk W w.heap.size 24 #[.string y0, .string y1, .int .i64 y2, .int .i64 y3, .slice ar nr cr] ∧ Blk W (w.heap.size + 1) 27 #[.string x0, .slice ag ng cg, .string x2, .string x3, .string x4, .int .i64 x5] ∧ Below w.heap.size w W ∧ RlR W (.slice ar nr cr) rs ∧ RqR W (.agg #[.string x0, .slice ag ng cg, .string x2, .string x3, .string x4, .int .i64 x5]) ⟨x0, L, x2, x3, x4, x5⟩) :=
    ⟨fun W b => ⟨N1.kept (Kept.of_below b (fun _ => False)) id, N2.kept (Kept.of_below b (fun _ => False)) id, B.trans (b.mono B.size), (hs.carry B).carry b, (hq.carry B).carry b⟩⟩
  have HG : Hd (∀ W, Below w2.heap.size w2 W → LsR W (.slice ag ng cg) L) := ⟨fun W b => by
    obtain ⟨a', n', c', e', hl⟩ := ((hq.carry B).carry b).ex
    simp only [Value.agg.injEq] at e'
    have := (Array.mk.injEq _ _).mp e'
    simp at this
    obtain ⟨rfl, rfl, rfl⟩ := this
    exact hl⟩
  have hnr : nr = rs.length ∧ rs.length ≤ 9223372036854775807 := by obtain ⟨a, c, e, h9, -⟩ := hs.at; exact ⟨by injection e, h9⟩
  have HN : Hd (nr = rs.length) := ⟨hnr.1⟩
  have hl9 : nr ≤ 9223372036854775807 := by omega
  have HZ : Hd (y0.size ≤ 9223372036854775807 ∧ y1.size ≤ 9223372036854775807) := ⟨hz0, hz1⟩
  have AW := awake_ok w2
  clear N1 N2 B hs hq hnr hz0 hz1
  go_enter Try.func5, Try.ntmps5
  go_upto_region 1 with fail
  rw [← hw2]
  clear hw2
  generalize w.heap.size + 1 = A2 at *
  obtain ⟨A1, hA1⟩ : ∃ A1, A1 = w.heap.size := ⟨_, rfl⟩
  have HW' : Hd (∀ W, Below w2.heap.size w2 W → Blk W A1 24 #[.string y0, .string y1, .int .i64 y2, .int .i64 y3, .slice ar nr cr] ∧ Blk W A2 27 #[.string x0, .slice ag ng cg, .string x2, .string x3, .string x4, .int .i64 x5] ∧ Below w.heap.size w W ∧ RlR W (.slice ar nr cr) rs ∧ RqR W (.agg #[.string x0, .slice ag ng cg, .string x2, .string x3, .string x4, .int .i64 x5]) ⟨x0, L, x2, x3, x4, x5⟩) := ⟨by rw [hA1]; exact HW.out⟩
  rw [← hA1]
  clear hA1 HW
  go_upto_region 3 with (go_at_call 7; refine AW.mono ?_; rintro e w3 ⟨rfl, b3⟩; clear AW)
  obtain ⟨N1, N2, B3, R3, Q3⟩ := HW'.out w3 b3
  have e0 := N1.cellv (v := .string y0) 0 rfl
  have e1 := N1.cellv (v := .string y1) 1 rfl
  have e2 := N1.cellv (v := .int .i64 y2) 2 rfl
  have e3 := N1.cellv (v := .int .i64 y3) 3 rfl
  have e4 := N1.cellv (v := .slice ar nr cr) 4 rfl
  have bu := alloc_below w3 (.cells #[.string y0, .string y1, .int .i64 y2, .int .i64 y3, .slice ar nr cr] 24)
  have SM := small_any _ _ _ (cf_one (Blk.new w3 24 #[.string y0, .string y1, .int .i64 y2, .int .i64 y3, .slice ar nr cr]) (R3.carry bu) HZ.out.1 HZ.out.2)
  have HU : Hd (Below w3.heap.size w3 (w3.alloc (.cells #[.string y0, .string y1, .int .i64 y2, .int .i64 y3, .slice ar nr cr] 24))) := ⟨bu⟩
  have H3 : Hd (Below w2.heap.size w2 w3) := ⟨b3⟩
  clear N1 N2 B3 R3 Q3 bu b3 HZ
  go_wp2_with fail
  refine SM.mono ?_
  rintro e w4 ⟨⟨b, rfl, hbn⟩, b4⟩
  have b4' : Below w2.heap.size w2 w4 := H3.out.trans ((HU.out.trans (b4.mono HU.out.size)).mono H3.out.size)
  have HBN : Hd _ := ⟨hbn⟩
  clear SM b4 HU H3 e0 e1 e2 e3 e4 hbn
  obtain ⟨N1, N2, B4, R4, Q4⟩ := HW'.out w4 b4'
  cases b with
  | false =>
    clear N1 N2 R4 Q4 b4'
    go_wp2_with fail
    go_ret
    exact ⟨rfl, B4⟩
  | true =>
    have HRN : Hd (rs.length ≤ 80) := ⟨(bnd_rules (HBN.out rfl)).1⟩
    have SQ := smallQ_ok _ _ w4 Q4
    have d0 := N2.cellv (v := .string x0) 0 rfl
    have d1 := N2.cellv (v := .slice ag ng cg) 1 rfl
    have d2 := N2.cellv (v := .string x2) 2 rfl
    have d3 := N2.cellv (v := .string x3) 3 rfl
    have d4 := N2.cellv (v := .string x4) 4 rfl
    have d5 := N2.cellv (v := .int .i64 x5) 5 rfl
    have H4 : Hd (Below w2.heap.size w2 w4) := ⟨b4'⟩
    clear N1 N2 B4 R4 Q4 b4' HBN
    go_wp2_with fail
    refine SQ.mono ?_
    rintro e w5 ⟨⟨b, rfl, -⟩, b5⟩
    have b5' : Below w2.heap.size w2 w5 := H4.out.trans (b5.mono H4.out.size)
    clear SQ b5 H4 d0 d1 d2 d3 d4 d5
    obtain ⟨N1, N2, B5, R5, Q5⟩ := HW'.out w5 b5'
    cases b with
    | false =>
      clear b5' N1 N2 R5 Q5
      go_wp2_with fail
      go_ret
      exact ⟨rfl, B5⟩
    | true =>
      have e4 := N1.cellv (v := .slice ar nr cr) 4 rfl
      have HB5 : Hd (Below w2.heap.size w2 w5) := ⟨b5'⟩
      clear N1 N2 R5 Q5 B5 b5'
      go_wp2_with fail
      go_loopw [5, 6, 7] (fun s5 s6 s7 wr => ∃ (p : Nat) (bb : Bool) (a : Option Addr) (n c : Nat), p ≤ nr ∧ s7 = .int .i64 ((p : Int) - 1) ∧ s5 = .bool bb ∧ s6 = .slice a n c ∧ Hd (bb = schB (rs.drop p) ⟨x0, L, x2, x3, x4, x5⟩ ∧ Bk w2 wr (.slice a n c) (rs.drop p).reverse ∧ Below w2.heap.size w2 wr)) (fun _ _ s7 _ => (intOf s7 + 1).toNat)
      case atStart =>
        refine ⟨nr, false, none, 0, 0, Nat.le_refl _, rfl, rfl, rfl, ⟨?_, ?_, HB5.out⟩⟩
        · rw [HN.out, List.drop_length]; rfl
        · rw [HN.out, List.drop_length]; exact Bk.nil _ _
      case round =>
        obtain ⟨p, bb, a, n, c, hp, rfl, rfl, rfl, HI⟩ := hrel
        clear e4 HB5
        cases p with
        | zero =>
          rw [show (((0 : Nat) : Int) - 1) = -1 from rfl]
          obtain ⟨hbb, hBk, hbw⟩ := HI.out
          rw [List.drop_zero] at hbb hBk
          obtain ⟨N1, N2, -, -, -⟩ := HW'.out wr hbw
          have AL := alloc_below wr (.cells #[.string y0, .string y1, .int .i64 y2, .int .i64 y3, .slice a n c] 24)
          have NN := Blk.new wr 24 #[.string y0, .string y1, .int .i64 y2, .int .i64 y3, .slice a n c]
          have bw2 : Below w2.heap.size w2 (wr.alloc (.cells #[.string y0, .string y1, .int .i64 y2, .int .i64 y3, .slice a n c] 24)) := hbw.trans (AL.mono hbw.size)
          have HR : Hd (∀ W, Below (wr.alloc (.cells #[.string y0, .string y1, .int .i64 y2, .int .i64 y3, .slice a n c] 24)).heap.size (wr.alloc (.cells #[.string y0, .string y1, .int .i64 y2, .int .i64 y3, .slice a n c] 24)) W → (Blk W A1 24 #[.string y0, .string y1, .int .i64 y2, .int .i64 y3, .slice ar nr cr] ∧ Blk W A2 27 #[.string x0, .slice ag ng cg, .string x2, .string x3, .string x4, .int .i64 x5] ∧ Blk W wr.heap.size 24 #[.string y0, .string y1, .int .i64 y2, .int .i64 y3, .slice a n c]) ∧ Below w.heap.size w W
              ∧ (Calls Try.prog 12 #[.agg #[.string y0, .string y1, .int .i64 y2, .int .i64 y3, .slice ar nr cr], .agg #[.string x0, .slice ag ng cg, .string x2, .string x3, .string x4, .int .i64 x5]] W fun e w' => e = .returned (.bool bb) ∧ Below W.heap.size W w')
              ∧ (Calls Try.prog 12 #[.agg #[.string y0, .string y1, .int .i64 y2, .int .i64 y3, .slice a n c], .agg #[.string x0, .slice ag ng cg, .string x2, .string x3, .string x4, .int .i64 x5]] W fun e w' => e = .returned (.bool bb) ∧ Below W.heap.size W w')) := ⟨fun W b => by
            have bw : Below w2.heap.size w2 W := bw2.trans (b.mono bw2.size)
            obtain ⟨M1, M2, M3, M4, -⟩ := HW'.out W bw
            have bwr : Below wr.heap.size wr W := AL.trans (b.mono AL.size)
            have I2 := schema_ok (y0 := y0) (y1 := y1) (y2 := y2) (y3 := y3) rs.reverse ⟨x0, L, x2, x3, x4, x5⟩ W ((hBk.grown bwr).read bw (by rw [List.length_reverse]; have := HN.out; omega)) (HG.out W bw)
            rw [schB_rev, ← hbb] at I2
            have I1 := schema_ok (y0 := y0) (y1 := y1) (y2 := y2) (y3 := y3) rs ⟨x0, L, x2, x3, x4, x5⟩ W M4 (HG.out W bw)
            rw [← hbb] at I1
            exact ⟨⟨M1, M2, NN.kept (Kept.of_below b (fun _ => False)) id⟩, M3, I1, I2⟩⟩
          have e0 := N1.cellv (v := .string y0) 0 rfl
          have e1 := N1.cellv (v := .string y1) 1 rfl
          have e2 := N1.cellv (v := .int .i64 y2) 2 rfl
          have e3 := N1.cellv (v := .int .i64 y3) 3 rfl
          have e4 := N1.cellv (v := .slice ar nr cr) 4 rfl
          clear N1 N2 AL NN bw2 hbb hBk hbw HI HW' HG
          go_upto_region 14 with fail
          clear e0 e1 e2 e3 e4
          generalize wr.heap.size = A9 at *
          generalize wr.alloc _ = W8 at *
          obtain ⟨⟨M1, M2, -⟩, -, I1, -⟩ := HR.out W8 (Below.refl _ _)
          have e0 := M1.cellv (v := .string y0) 0 rfl
          have e1 := M1.cellv (v := .string y1) 1 rfl
          have e2 := M1.cellv (v := .int .i64 y2) 2 rfl
          have e3 := M1.cellv (v := .int .i64 y3) 3 rfl
          have e4 := M1.cellv (v := .slice ar nr cr) 4 rfl
          have d0 := M2.cellv (v := .string x0) 0 rfl
          have d1 := M2.cellv (v := .slice ag ng cg) 1 rfl
          have d2 := M2.cellv (v := .string x2) 2 rfl
          have d3 := M2.cellv (v := .string x3) 3 rfl
          have d4 := M2.cellv (v := .string x4) 4 rfl
          have d5 := M2.cellv (v := .int .i64 x5) 5 rfl
          clear M1 M2
          go_wp2_with fail
          refine I1.mono ?_
          rintro e w9 ⟨rfl, b9⟩
          obtain ⟨⟨-, M2, M3⟩, -, -, I2⟩ := HR.out w9 b9
          have HB9 : Hd (Below W8.heap.size W8 w9) := ⟨b9⟩
          clear I1 e0 e1 e2 e3 e4 d0 d1 d2 d3 d4 d5 b9
          have e0 := M3.cellv (v := .string y0) 0 rfl
          have e1 := M3.cellv (v := .string y1) 1 rfl
          have e2 := M3.cellv (v := .int .i64 y2) 2 rfl
          have e3 := M3.cellv (v := .int .i64 y3) 3 rfl
          have e4 := M3.cellv (v := .slice a n c) 4 rfl
          have d0 := M2.cellv (v := .string x0) 0 rfl
          have d1 := M2.cellv (v := .slice ag ng cg) 1 rfl
          have d2 := M2.cellv (v := .string x2) 2 rfl
          have d3 := M2.cellv (v := .string x3) 3 rfl
          have d4 := M2.cellv (v := .string x4) 4 rfl
          have d5 := M2.cellv (v := .int .i64 x5) 5 rfl
          have EB : (bb == bb) = true := by simp
          clear M2 M3
          go_wp2_with fail
          refine I2.mono ?_
          rintro e w10 ⟨rfl, b10⟩
          have HBA : Hd (Below w.heap.size w w10) := ⟨(HR.out w10 (HB9.out.trans (b10.mono HB9.out.size))).2.1⟩
          clear I2 e0 e1 e2 e3 e4 d0 d1 d2 d3 d4 d5 b10 HR
          go_wp2_with fail
          go_ret
          exact ⟨rfl, HBA.out⟩
        | succ k =>
          rw [show (((k + 1 : Nat) : Int) - 1) = (k : Int) by omega]
          have hkR : k < rs.length := by rw [← HN.out]; omega
          have hkn : k < nr := by omega
          obtain ⟨hbb, hBk, hbw⟩ := HI.out
          obtain ⟨a', c', e', -, hR'⟩ := (HW'.out w2 (Below.refl _ _)).2.2.2.1.at
          obtain ⟨b, off, ea, hbl, a0, n0, c0, a1, n1, c1, a2, n2, c2, a3, n3, c3, a4, n4, c4, ⟨k0, k1, k2, k3, k4⟩, hru⟩ := hR' k hkR
          obtain rfl : ar = a' := by injection e'
          subst ea
          have HC : Hd (∀ W, Below w2.heap.size w2 W → (W.cell? ⟨b, off + k * 5, none⟩ = some (.slice a0 n0 c0) ∧ W.cell? ⟨b, off + k * 5 + 1, none⟩ = some (.slice a1 n1 c1) ∧ W.cell? ⟨b, off + k * 5 + 2, none⟩ = some (.slice a2 n2 c2) ∧ W.cell? ⟨b, off + k * 5 + 3, none⟩ = some (.slice a3 n3 c3) ∧ W.cell? ⟨b, off + k * 5 + 4, none⟩ = some (.slice a4 n4 c4))
              ∧ (Calls Try.prog 14 #[.agg #[.slice a0 n0 c0, .slice a1 n1 c1, .slice a2 n2 c2, .slice a3 n3 c3, .slice a4 n4 c4], .agg #[.string x0, .slice ag ng cg, .string x2, .string x3, .string x4, .int .i64 x5]] W fun e w' => e = .returned (.bool (ruleB rs[k] ⟨x0, L, x2, x3, x4, x5⟩)) ∧ Below W.heap.size W w') ∧ Blk W A1 24 #[.string y0, .string y1, .int .i64 y2, .int .i64 y3, .slice (some ⟨b, off, none⟩) nr cr] ∧ Blk W A2 27 #[.string x0, .slice ag ng cg, .string x2, .string x3, .string x4, .int .i64 x5]) :=
            ⟨fun W bb => ⟨⟨(bb.cell (p := ⟨b, off + k * 5, none⟩) hbl).trans k0, (bb.cell (p := ⟨b, off + k * 5 + 1, none⟩) hbl).trans k1, (bb.cell (p := ⟨b, off + k * 5 + 2, none⟩) hbl).trans k2, (bb.cell (p := ⟨b, off + k * 5 + 3, none⟩) hbl).trans k3, (bb.cell (p := ⟨b, off + k * 5 + 4, none⟩) hbl).trans k4⟩, rule_ok rs[k] _ W (hru.carry bb) (HG.out W bb), (HW'.out W bb).1, (HW'.out W bb).2.1⟩⟩
          have HSD := schB_drop (q := ⟨x0, L, x2, x3, x4, x5⟩) hkR
          have HX : Hd (∀ W v' Q, Below w2.heap.size w2 W → Q.length = (rs.drop (k + 1)).reverse.length → (∀ j (h : j < (rs.drop (k + 1)).reverse.length) (h' : j < Q.length), RuR w2 Q[j].v0 Q[j].v1 Q[j].v2 Q[j].v3 Q[j].v4 (rs.drop (k + 1)).reverse[j]) → W.ownsRow w2.heap.size 39 5 v' ((rs.drop (k + 1)).reverse.length + 1) (q5C Q ++ q5L ⟨.slice a0 n0 c0, .slice a1 n1 c1, .slice a2 n2 c2, .slice a3 n3 c3, .slice a4 n4 c4⟩) → Bk w2 W v' (rs.drop k).reverse) := ⟨fun W v' Q _ h1 h3 ho => by rw [rev_drop hkR]; exact Bk.put (q := ⟨.slice a0 n0 c0, .slice a1 n1 c1, .slice a2 n2 c2, .slice a3 n3 c3, .slice a4 n4 c4⟩) h1 h3 hru ho⟩
          have HO1 : Hd (∀ u ∈ [Value.slice a0 n0 c0, .slice a1 n1 c1, .slice a2 n2 c2, .slice a3 n3 c3, .slice a4 n4 c4], u.oneCell' = true) := ⟨q5L_oneR (q := ⟨.slice a0 n0 c0, .slice a1 n1 c1, .slice a2 n2 c2, .slice a3 n3 c3, .slice a4 n4 c4⟩) hru⟩
          rw [← hbb] at HSD
          have HS : Hd _ := ⟨HSD⟩
          have HBK : Hd (Bk w2 wr (.slice a n c) (rs.drop (k + 1)).reverse) := ⟨hBk⟩
          have HBW : Hd (Below w2.heap.size w2 wr) := ⟨hbw⟩
          have HK : Hd (k < nr ∧ nr ≤ 80) := ⟨hkn, by have := HN.out; have := HRN.out; omega⟩
          have HLn : Hd ((rs.drop (k + 1)).reverse.length ≤ 80) := ⟨by have := HRN.out; simp; omega⟩
          generalize ruleB rs[k] ⟨x0, L, x2, x3, x4, x5⟩ = rb at *
          clear e' hR' k0 k1 k2 k3 k4 hru hbl hbb hBk hbw HI HSD hkR hkn
          obtain ⟨T, hT⟩ : ∃ T, T = (rs.drop (k + 1)).reverse := ⟨_, rfl⟩
          obtain ⟨T', hT'⟩ : ∃ T', T' = (rs.drop k).reverse := ⟨_, rfl⟩
          obtain ⟨sb', hsb⟩ : ∃ sb', sb' = schB (rs.drop k) ⟨x0, L, x2, x3, x4, x5⟩ := ⟨_, rfl⟩
          have HSB : Hd (sb' = schB (rs.drop k) ⟨x0, L, x2, x3, x4, x5⟩) := ⟨hsb⟩
          have HTT : Hd (T' = (rs.drop k).reverse) := ⟨hT'⟩
          rw [← hT] at HBK HLn HX
          rw [← hT'] at HX
          rw [← hsb] at HS
          clear hT hT' hsb
          clear hp
          have HW3 : Hd (∀ W, Below wr.heap.size wr W → Below w2.heap.size w2 W) := ⟨fun W b => HBW.out.trans (b.mono HBW.out.size)⟩
          have e4 := (HC.out wr HBW.out).2.2.1.cellv (v := .slice (some ⟨b, off, none⟩) nr cr) 4 rfl
          go_upto_region 10 with fail
          go_cut [5] from 29 to 38 (fun s5 wx => Hd (s5 = .bool sb' ∧ Below wr.heap.size wr wx))
          case first =>
            have DR : Below wr.heap.size wr wr.drew := ⟨rfl, rfl, rfl, Nat.le_refl _, fun _ _ => rfl⟩
            clear e4
            refine AnyG.start (T := fun W => Below wr.heap.size wr W) (U := fun _ => True) (j0 := 100) (by kernel_rfl) ?_
            have b0 := DR
            clear DR
            generalize wr.drew = w0 at *
            cases bb with
            | true =>
              have hs : sb' = true := by rw [HS.out, Bool.true_or]
              subst hs
              refine .tq 0 29 b0 ?_; simp only [tkA, tkB, tkC]
              refine .tq 1 30 b0 ?_; simp only [tkA, tkB, tkC]
              refine .sq 2 31 b0 ?_; simp only [tkA, tkB, tkC]
              refine .sq 3 32 b0 ?_; simp only [tkA, tkB, tkC]
              refine .sq 4 33 b0 ?_; simp only [tkA, tkB, tkC]
              refine .sq 5 34 b0 ?_; simp only [tkA, tkB, tkC]
              refine .sq 6 35 b0 ?_; simp only [tkA, tkB, tkC]
              refine .sq 7 36 b0 ?_; simp only [tkA, tkB, tkC]
              refine .sq 8 37 b0 ?_; simp only [tkA, tkB, tkC]
              refine .tq 9 38 b0 ?_; simp only [tkA, tkB, tkC]
              refine .tq 10 5 b0 ?_; simp only [tkA, tkB, tkC]
              refine AnyG.done (by kernel_rfl) ?_ _
              go_wp2_with fail
              go_meet
              exact ⟨rfl, b0⟩
            | false =>
              have hs : sb' = rb := by rw [HS.out, Bool.false_or]
              subst hs
              refine .tq 0 29 b0 ?_; simp only [tkA, tkB, tkC]
              refine .tq 1 30 b0 ?_; simp only [tkA, tkB, tkC]
              refine .tq 2 31 b0 ?_; simp only [tkA, tkB, tkC]
              refine .tq 3 32 b0 ?_ (hy := fun w hSw => by have s4 := (HC.out w (HW3.out w hSw)).2.2.1.cellv (v := .slice (some ⟨b, off, none⟩) nr cr) 4 rfl; go_simp; rfl); simp only [tkA, tkB, tkC]
              refine .tq 4 33 b0 ?_; simp only [tkA, tkB, tkC]
              refine .tq 5 34 b0 ?_ (hy := fun w hSw => by have hlt := HK.out.1; go_simp; rfl); simp only [tkA, tkB, tkC]
              refine .tq 6 35 b0 ?_ (hy := fun w hSw => by obtain ⟨⟨s0, s1, s2, s3, s4⟩, -⟩ := HC.out w (HW3.out w hSw); go_simp; rfl); simp only [tkA, tkB, tkC]
              refine .tq 7 36 b0 ?_ (hy := fun w hSw => by have M := (HC.out w (HW3.out w hSw)).2.2.2; have s0 := M.cellv (v := .string x0) 0 rfl; have s1 := M.cellv (v := .slice ag ng cg) 1 rfl; have s2 := M.cellv (v := .string x2) 2 rfl; have s3 := M.cellv (v := .string x3) 3 rfl; have s4 := M.cellv (v := .string x4) 4 rfl; have s5 := M.cellv (v := .int .i64 x5) 5 rfl; go_simp; rfl); simp only [tkA, tkB, tkC]
              refine AnyG.ready (rs := [8]) (by kernel_rfl) (by simp) ?_
              refine AllG.cons rfl (fun K hK => ?_) AllG.nil
              go_simp
              refine (HC.out w0 (HW3.out w0 b0)).2.1.mono ?_
              rintro e wk1 ⟨rfl, b1⟩
              have bk1 : Below wr.heap.size wr wk1 := b0.trans (b1.mono b0.size)
              refine hK.out _ _ ⟨bk1, fun _ => trivial⟩ ?_
              clear hK K b1 b0
              refine .tq 9 38 bk1 ?_; simp only [tkA, tkB, tkC]
              refine .tq 10 5 bk1 ?_; simp only [tkA, tkB, tkC]
              refine AnyG.done (by kernel_rfl) ?_ _
              go_wp2_with fail
              go_meet
              exact ⟨rfl, bk1⟩
          case rest =>
            obtain ⟨hs5, bwc⟩ := hcut.out
            subst hs5
            clear hcut e4
            have bc := HW3.out wc bwc
            obtain ⟨Q, hQ, OW0, hQr⟩ := (HBK.out.grown bwc).ex
            have AL := alloc_below wc (.cells #[.slice a0 n0 c0, .slice a1 n1 c1, .slice a2 n2 c2, .slice a3 n3 c3, .slice a4 n4 c4] 39)
            have OW := owns_off OW0 (Kept.of_below AL (fun _ => False)) (Off.none _ _)
            have bA : Below w2.heap.size w2 (wc.alloc (.cells #[.slice a0 n0 c0, .slice a1 n1 c1, .slice a2 n2 c2, .slice a3 n3 c3, .slice a4 n4 c4] 39)) := bc.trans (AL.mono bc.size)
            have gz : w2.heap.size ≤ (wc.alloc (.cells #[.slice a0 n0 c0, .slice a1 n1 c1, .slice a2 n2 c2, .slice a3 n3 c3, .slice a4 n4 c4] 39)).heap.size := bA.size
            have NW := five_row wc (.slice a0 n0 c0) (.slice a1 n1 c1) (.slice a2 n2 c2) (.slice a3 n3 c3) (.slice a4 n4 c4)
            have O1 := HO1.out
            obtain ⟨⟨k0, k1, k2, k3, k4⟩, -, NA, -⟩ := HC.out wc bc
            have e4 := NA.cellv (v := .slice (some ⟨b, off, none⟩) nr cr) 4 rfl
            obtain ⟨i0, hi, hz0, hz1, hz2⟩ := info_parts infoR
            have HP : Hd (∀ W v', Below w2.heap.size w2 W → W.ownsRow w2.heap.size 39 5 v' (T.length + 1) (q5C Q ++ q5L ⟨.slice a0 n0 c0, .slice a1 n1 c1, .slice a2 n2 c2, .slice a3 n3 c3, .slice a4 n4 c4⟩) → Bk w2 W v' T') := ⟨fun W v' bw ho => HX.out W v' Q bw hQ hQr ho⟩
            have hkn := HK.out.1
            have hTn : n = T.length := by obtain ⟨a', c', e', -⟩ := owns_read OW0; injection e'
            have HTn : Hd (n = T.length) := ⟨hTn⟩
            rw [← hTn] at OW
            clear NA AL OW0 hQ hQr HX HBK HC HS HO1 bc hTn
            go_wp2_with (at_builtin; go_loud (refine wpList_append_own _ rfl _ _ 22 rfl w2.heap.size 39 i0 (.agg #[.slice none 0 0, .slice none 0 0, .slice none 0 0, .slice none 0 0, .slice none 0 0]) 5 120 Try.underlying22 hi hz0 hz1 hz2 rfl (by decide) _ _ _ rfl OW _ 1 1 [.slice a0 n0 c0, .slice a1 n1 c1, .slice a2 n2 c2, .slice a3 n3 c3, .slice a4 n4 c4] rfl rfl NW O1 (by have := HLn.out; have := HTn.out; unfold maxLen; omega) (by have := HLn.out; have := HTn.out; omega) gz ?_; intro v' w' hown hgr _; have bW : Below w2.heap.size w2 w' := bA.grown hgr gz (fun y hy => (OW.lt y hy).1); have BK' : Bk w2 w' v' T' := HP.out w' v' bW (by rw [← HTn.out]; simpa [q5L] using hown); obtain ⟨av, cv, ev⟩ : (∃ a c, v' = .slice a (n + 1) c) := (by obtain ⟨a2, c2, e2, -⟩ := owns_read hown; exact ⟨a2, c2, e2⟩); subst ev; have HZ : Hd (Bk w2 w' (.slice av (n + 1) cv) T' ∧ Below w2.heap.size w2 w') := ⟨BK', bW⟩; clear hown hgr bW BK' OW NW O1 bA gz HP))
            go_roundw
            case rel => exact ⟨k, sb', av, n + 1, cv, by have := HK.out; omega, by go_num, rfl, rfl, ⟨HSB.out, by rw [← HTT.out]; exact HZ.out.1, HZ.out.2⟩⟩
            case measure => first | (simp [intOf]; done) | (simp [intOf]; omega)
end Go.Proofs.Ytendblngcbknpaa
