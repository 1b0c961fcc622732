/-
  'MatchNobody' answers true. Condition: rule and request lie in memory.
-/
import Derived.Test.YtendblngcbknpaaOp
import Derived.Deep.CutBlock
import Derived.Deep.DeepCutAuto
namespace Go.Proofs.Ytendblngcbknpaa
open Go.RowKit

theorem zero_yes {n : Nat} (h : n = 0) : ((n : Int) == 0) = true := by subst h; rfl
theorem zero_no {n : Nat} (h : ¬ n = 0) : ((n : Int) == 0) = false := by
  rw [beq_eq_false_iff_ne]
  omega
theorem LsR.keptB {S : Nat → Prop} {w w' : World} {b off n c : Nat} {L : List ByteArray} (h : LsR w (.slice (some ⟨b, off, none⟩) n c) L) (k : Kept S w w') (hS : ¬ S b) : LsR w' (.slice (some ⟨b, off, none⟩) n c) L := by
  obtain ⟨a', c', e, hr, rest⟩ := h
  refine ⟨a', c', e, fun hn => ?_, rest⟩
  obtain ⟨b', off', e', hb, hc⟩ := hr hn
  refine ⟨b', off', e', Nat.lt_of_lt_of_le hb k.size, fun j hj => ?_⟩
  rw [e'] at e
  obtain rfl : b = b' := by injection e with e; injection e with e; injection e
  have := hc j hj
  unfold World.cell? at this ⊢
  rw [k.block b hb hS]
  exact this
/-- The rule that speaks of everybody, laid over its box. -/
theorem all_world {a0 a1 a2 a3 a4 : Option Addr} {n0 n1 n2 n3 n4 c0 c1 c2 c3 c4 : Nat} (W : World) (A B0 : Nat) (hA : A < W.heap.size) (hB : B0 ≤ A) (N : Blk W A 39 #[.slice a0 n0 c0, .slice a1 n1 c1, .slice a2 n2 c2, .slice a3 n3 c3, .slice a4 n4 c4]) :
    Blk ((((W.alloc (.cells #[.string ⟨#[42]⟩] 9)).alloc (.cells #[.string ⟨#[42]⟩] 9)).alloc (.cells #[.string ⟨#[42]⟩] 9)).alloc (.cells #[.string ⟨#[42]⟩] 9)) A 39 #[.slice a0 n0 c0, .slice a1 n1 c1, .slice a2 n2 c2, .slice a3 n3 c3, .slice a4 n4 c4] ∧ Blk ((((((((W.alloc (.cells #[.string ⟨#[42]⟩] 9)).alloc (.cells #[.string ⟨#[42]⟩] 9)).alloc (.cells #[.string ⟨#[42]⟩] 9)).alloc (.cells #[.string ⟨#[42]⟩] 9)).setCell ⟨A, 0, none⟩ (.slice (some ⟨W.heap.size, 0, none⟩) 1 1)).setCell ⟨A, 2, none⟩ (.slice (some ⟨W.heap.size + 1, 0, none⟩) 1 1)).setCell ⟨A, 3, none⟩ (.slice (some ⟨W.heap.size + 1 + 1, 0, none⟩) 1 1)).setCell ⟨A, 4, none⟩ (.slice (some ⟨W.heap.size + 1 + 1 + 1, 0, none⟩) 1 1)) A 39 #[.slice (some ⟨W.heap.size, 0, none⟩) 1 1, .slice a1 n1 c1, .slice (some ⟨W.heap.size + 1, 0, none⟩) 1 1, .slice (some ⟨W.heap.size + 1 + 1, 0, none⟩) 1 1, .slice (some ⟨W.heap.size + 1 + 1 + 1, 0, none⟩) 1 1] ∧ Below B0 W ((((((((W.alloc (.cells #[.string ⟨#[42]⟩] 9)).alloc (.cells #[.string ⟨#[42]⟩] 9)).alloc (.cells #[.string ⟨#[42]⟩] 9)).alloc (.cells #[.string ⟨#[42]⟩] 9)).setCell ⟨A, 0, none⟩ (.slice (some ⟨W.heap.size, 0, none⟩) 1 1)).setCell ⟨A, 2, none⟩ (.slice (some ⟨W.heap.size + 1, 0, none⟩) 1 1)).setCell ⟨A, 3, none⟩ (.slice (some ⟨W.heap.size + 1 + 1, 0, none⟩) 1 1)).setCell ⟨A, 4, none⟩ (.slice (some ⟨W.heap.size + 1 + 1 + 1, 0, none⟩) 1 1))
    ∧ LsR ((((((((W.alloc (.cells #[.string ⟨#[42]⟩] 9)).alloc (.cells #[.string ⟨#[42]⟩] 9)).alloc (.cells #[.string ⟨#[42]⟩] 9)).alloc (.cells #[.string ⟨#[42]⟩] 9)).setCell ⟨A, 0, none⟩ (.slice (some ⟨W.heap.size, 0, none⟩) 1 1)).setCell ⟨A, 2, none⟩ (.slice (some ⟨W.heap.size + 1, 0, none⟩) 1 1)).setCell ⟨A, 3, none⟩ (.slice (some ⟨W.heap.size + 1 + 1, 0, none⟩) 1 1)).setCell ⟨A, 4, none⟩ (.slice (some ⟨W.heap.size + 1 + 1 + 1, 0, none⟩) 1 1)) (.slice (some ⟨W.heap.size, 0, none⟩) 1 1) [⟨#[42]⟩] ∧ LsR ((((((((W.alloc (.cells #[.string ⟨#[42]⟩] 9)).alloc (.cells #[.string ⟨#[42]⟩] 9)).alloc (.cells #[.string ⟨#[42]⟩] 9)).alloc (.cells #[.string ⟨#[42]⟩] 9)).setCell ⟨A, 0, none⟩ (.slice (some ⟨W.heap.size, 0, none⟩) 1 1)).setCell ⟨A, 2, none⟩ (.slice (some ⟨W.heap.size + 1, 0, none⟩) 1 1)).setCell ⟨A, 3, none⟩ (.slice (some ⟨W.heap.size + 1 + 1, 0, none⟩) 1 1)).setCell ⟨A, 4, none⟩ (.slice (some ⟨W.heap.size + 1 + 1 + 1, 0, none⟩) 1 1)) (.slice (some ⟨W.heap.size + 1, 0, none⟩) 1 1) [⟨#[42]⟩] ∧ LsR ((((((((W.alloc (.cells #[.string ⟨#[42]⟩] 9)).alloc (.cells #[.string ⟨#[42]⟩] 9)).alloc (.cells #[.string ⟨#[42]⟩] 9)).alloc (.cells #[.string ⟨#[42]⟩] 9)).setCell ⟨A, 0, none⟩ (.slice (some ⟨W.heap.size, 0, none⟩) 1 1)).setCell ⟨A, 2, none⟩ (.slice (some ⟨W.heap.size + 1, 0, none⟩) 1 1)).setCell ⟨A, 3, none⟩ (.slice (some ⟨W.heap.size + 1 + 1, 0, none⟩) 1 1)).setCell ⟨A, 4, none⟩ (.slice (some ⟨W.heap.size + 1 + 1 + 1, 0, none⟩) 1 1)) (.slice (some ⟨W.heap.size + 1 + 1, 0, none⟩) 1 1) [⟨#[42]⟩] ∧ LsR ((((((((W.alloc (.cells #[.string ⟨#[42]⟩] 9)).alloc (.cells #[.string ⟨#[42]⟩] 9)).alloc (.cells #[.string ⟨#[42]⟩] 9)).alloc (.cells #[.string ⟨#[42]⟩] 9)).setCell ⟨A, 0, none⟩ (.slice (some ⟨W.heap.size, 0, none⟩) 1 1)).setCell ⟨A, 2, none⟩ (.slice (some ⟨W.heap.size + 1, 0, none⟩) 1 1)).setCell ⟨A, 3, none⟩ (.slice (some ⟨W.heap.size + 1 + 1, 0, none⟩) 1 1)).setCell ⟨A, 4, none⟩ (.slice (some ⟨W.heap.size + 1 + 1 + 1, 0, none⟩) 1 1)) (.slice (some ⟨W.heap.size + 1 + 1 + 1, 0, none⟩) 1 1) [⟨#[42]⟩] := by
  have s1 : (⟨#[42]⟩ : ByteArray).size ≤ 9223372036854775807 := by decide
  have L1 := ls_one W _ s1
  have B1 := alloc_below W (.cells #[.string ⟨#[42]⟩] 9)
  have z1 : (W.alloc (.cells #[.string ⟨#[42]⟩] 9)).heap.size = W.heap.size + 1 := by simp
  generalize W.alloc (.cells #[.string ⟨#[42]⟩] 9) = u1 at *
  have L2 := ls_one u1 _ s1
  have B2 := alloc_below u1 (.cells #[.string ⟨#[42]⟩] 9)
  have z2 : (u1.alloc (.cells #[.string ⟨#[42]⟩] 9)).heap.size = W.heap.size + 1 + 1 := by simp [z1]
  rw [z1] at L2
  generalize u1.alloc (.cells #[.string ⟨#[42]⟩] 9) = u2 at *
  have L3 := ls_one u2 _ s1
  have B3 := alloc_below u2 (.cells #[.string ⟨#[42]⟩] 9)
  have z3 : (u2.alloc (.cells #[.string ⟨#[42]⟩] 9)).heap.size = W.heap.size + 1 + 1 + 1 := by simp [z2]
  rw [z2] at L3
  generalize u2.alloc (.cells #[.string ⟨#[42]⟩] 9) = u3 at *
  have L4 := ls_one u3 _ s1
  have B4 := alloc_below u3 (.cells #[.string ⟨#[42]⟩] 9)
  have z4 : (u3.alloc (.cells #[.string ⟨#[42]⟩] 9)).heap.size = W.heap.size + 1 + 1 + 1 + 1 := by simp [z3]
  rw [z3] at L4
  generalize u3.alloc (.cells #[.string ⟨#[42]⟩] 9) = u4 at *
  have BB : Below W.heap.size W u4 := B1.trans ((B2.mono (by omega)).trans ((B3.mono (by omega)).trans (B4.mono (by omega))))
  have N4 := N.kept (Kept.of_below BB (fun _ => False)) id
  have K : Kept (fun k => k = A) u4 ((((u4.setCell ⟨A, 0, none⟩ (.slice (some ⟨W.heap.size, 0, none⟩) 1 1)).setCell ⟨A, 2, none⟩ (.slice (some ⟨W.heap.size + 1, 0, none⟩) 1 1)).setCell ⟨A, 3, none⟩ (.slice (some ⟨W.heap.size + 1 + 1, 0, none⟩) 1 1)).setCell ⟨A, 4, none⟩ (.slice (some ⟨W.heap.size + 1 + 1 + 1, 0, none⟩) 1 1)) := ((((Kept.refl (fun k => k = A) u4).setCell _ _ (.inl rfl)).setCell _ _ (.inl rfl)).setCell _ _ (.inl rfl)).setCell _ _ (.inl rfl)
  have F := (((N4.set 0 (.slice (some ⟨W.heap.size, 0, none⟩) 1 1)).set 2 (.slice (some ⟨W.heap.size + 1, 0, none⟩) 1 1)).set 3 (.slice (some ⟨W.heap.size + 1 + 1, 0, none⟩) 1 1)).set 4 (.slice (some ⟨W.heap.size + 1 + 1 + 1, 0, none⟩) 1 1)
  refine ⟨N4, by simpa using F, (BB.mono (by omega)).trans (K.below (by omega) (fun k hk => by omega)), ?_, ?_, ?_, ?_⟩
  · exact (((L1.carry B2).carry B3).carry B4).keptB K (by omega)
  · exact ((L2.carry B3).carry B4).keptB K (by omega)
  · exact (L3.carry B4).keptB K (by omega)
  · exact L4.keptB K (by omega)
set_option maxRecDepth 20000 in
set_option maxHeartbeats 16000000 in
theorem nobody_ok {a0 a1 a2 a3 a4 ag : Option Addr} {n0 n1 n2 n3 n4 ng c0 c1 c2 c3 c4 cg : Nat} {x0 x2 x3 x4 : ByteArray} {x5 : Int} (r : Rl) (L : List ByteArray) (w : World) (hr : RuR w (.slice a0 n0 c0) (.slice a1 n1 c1) (.slice a2 n2 c2) (.slice a3 n3 c3) (.slice a4 n4 c4) r) (hq : RqR w (.agg #[.string x0, .slice ag ng cg, .string x2, .string x3, .string x4, .int .i64 x5]) ⟨x0, L, x2, x3, x4, x5⟩) :
    Calls Try.prog 6 #[.agg #[.slice a0 n0 c0, .slice a1 n1 c1, .slice a2 n2 c2, .slice a3 n3 c3, .slice a4 n4 c4], .agg #[.string x0, .slice ag ng cg, .string x2, .string x3, .string x4, .int .i64 x5]] w fun e w' => e = .returned (.bool true) ∧ Below w.heap.size w w' := by
  obtain ⟨w2, hw2⟩ : ∃ w2, w2 = (w.alloc (.cells #[.slice a0 n0 c0, .slice a1 n1 c1, .slice a2 n2 c2, .slice a3 n3 c3, .slice a4 n4 c4] 39)).alloc (.cells #[.string x0, .slice ag ng cg, .string x2, .string x3, .string x4, .int .i64 x5] 27) := ⟨_, rfl⟩
  have BX := boxes w 39 27 #[.slice a0 n0 c0, .slice a1 n1 c1, .slice a2 n2 c2, .slice a3 n3 c3, .slice a4 n4 c4] #[.string x0, .slice ag ng cg, .string x2, .string x3, .string x4, .int .i64 x5]
  rw [← hw2] at BX
  obtain ⟨B, N1, N2⟩ := BX
  have HW : Hd (∀ W, Below w2.heap.size w2 W → Blk W w.heap.size 39 #[.slice a0 n0 c0, .slice a1 n1 c1, .slice a2 n2 c2, .slice a3 n3 c3, .slice a4 n4 c4] ∧ Blk W (w.heap.size + 1) 27 #[.string x0, .slice ag ng cg, .string x2, .string x3, .string x4, .int .i64 x5] ∧ Below w.heap.size w W ∧ RuR W (.slice a0 n0 c0) (.slice a1 n1 c1) (.slice a2 n2 c2) (.slice a3 n3 c3) (.slice a4 n4 c4) r ∧ RqR W (.agg #[.string x0, .slice ag ng cg, .string x2, .string x3, .string x4, .int .i64 x5]) ⟨x0, L, x2, x3, x4, x5⟩) :=
    ⟨fun W b => ⟨N1.kept (Kept.of_below b (fun _ => False)) id, N2.kept (Kept.of_below b (fun _ => False)) id, B.trans (b.mono B.size), (hr.carry B).carry b, (hq.carry B).carry b⟩⟩
  have HG : Hd (∀ W, Below w2.heap.size w2 W → LsR W (.slice ag ng cg) L) := ⟨fun W b => by
    obtain ⟨a', n', c', e', hl⟩ := ((hq.carry B).carry b).ex
    simp only [Value.agg.injEq] at e'
    have := (Array.mk.injEq _ _).mp e'
    simp at this
    obtain ⟨rfl, rfl, rfl⟩ := this
    exact hl⟩
  have AW := awake_ok w2
  clear N1 N2 B hr hq
  go_enter Try.func6, Try.ntmps6
  go_upto_region 1 with fail
  rw [← hw2]
  clear hw2
  generalize w.heap.size + 1 = A2 at *
  obtain ⟨A1, hA1⟩ : ∃ A1, A1 = w.heap.size := ⟨_, rfl⟩
  have HW' : Hd (∀ W, Below w2.heap.size w2 W → Blk W A1 39 #[.slice a0 n0 c0, .slice a1 n1 c1, .slice a2 n2 c2, .slice a3 n3 c3, .slice a4 n4 c4] ∧ Blk W A2 27 #[.string x0, .slice ag ng cg, .string x2, .string x3, .string x4, .int .i64 x5] ∧ Below w.heap.size w W ∧ RuR W (.slice a0 n0 c0) (.slice a1 n1 c1) (.slice a2 n2 c2) (.slice a3 n3 c3) (.slice a4 n4 c4) r ∧ RqR W (.agg #[.string x0, .slice ag ng cg, .string x2, .string x3, .string x4, .int .i64 x5]) ⟨x0, L, x2, x3, x4, x5⟩) := ⟨by rw [hA1]; exact HW.out⟩
  rw [← hA1]
  clear hA1 HW
  go_upto_region 3 with (go_at_call 7; refine AW.mono ?_; rintro e w3 ⟨rfl, b3⟩; clear AW)
  obtain ⟨N1, N2, B3, R3, Q3⟩ := HW'.out w3 b3
  have e0 := N1.cellv (v := .slice a0 n0 c0) 0 rfl
  have e1 := N1.cellv (v := .slice a1 n1 c1) 1 rfl
  have e2 := N1.cellv (v := .slice a2 n2 c2) 2 rfl
  have e3 := N1.cellv (v := .slice a3 n3 c3) 3 rfl
  have e4 := N1.cellv (v := .slice a4 n4 c4) 4 rfl
  have BU := boxes w3 39 24 #[.slice a0 n0 c0, .slice a1 n1 c1, .slice a2 n2 c2, .slice a3 n3 c3, .slice a4 n4 c4] #[.string ⟨#[]⟩, .string ⟨#[]⟩, .int .i64 0, .int .i64 0, .slice (some ⟨w3.heap.size, 0, none⟩) 1 1]
  obtain ⟨bu, M1, M2⟩ := BU
  have SM := small_any _ _ _ (cf_one M2 (rl_one M1 (R3.carry bu)) (by decide) (by decide))
  have HU : Hd (Below w3.heap.size w3 ((w3.alloc (.cells #[.slice a0 n0 c0, .slice a1 n1 c1, .slice a2 n2 c2, .slice a3 n3 c3, .slice a4 n4 c4] 39)).alloc (.cells #[.string ⟨#[]⟩, .string ⟨#[]⟩, .int .i64 0, .int .i64 0, .slice (some ⟨w3.heap.size, 0, none⟩) 1 1] 24))) := ⟨bu⟩
  have H3 : Hd (Below w2.heap.size w2 w3) := ⟨b3⟩
  clear N1 N2 B3 R3 Q3 bu M1 M2 b3
  go_wp2_with fail
  refine SM.mono ?_
  rintro e w4 ⟨⟨b, rfl, -⟩, b4⟩
  have b4' : Below w2.heap.size w2 w4 := H3.out.trans ((HU.out.trans (b4.mono HU.out.size)).mono H3.out.size)
  clear SM b4 HU H3 e0 e1 e2 e3 e4
  obtain ⟨N1, N2, B4, R4, Q4⟩ := HW'.out w4 b4'
  cases b with
  | false =>
    clear N1 N2 R4 Q4 b4'
    go_wp2_with fail
    go_ret
    exact ⟨rfl, B4⟩
  | true =>
    have SQ := smallQ_ok _ _ w4 Q4
    have d0 := N2.cellv (v := .string x0) 0 rfl
    have d1 := N2.cellv (v := .slice ag ng cg) 1 rfl
    have d2 := N2.cellv (v := .string x2) 2 rfl
    have d3 := N2.cellv (v := .string x3) 3 rfl
    have d4 := N2.cellv (v := .string x4) 4 rfl
    have d5 := N2.cellv (v := .int .i64 x5) 5 rfl
    have H4 : Hd (Below w2.heap.size w2 w4) := ⟨b4'⟩
    clear N1 N2 B4 R4 Q4 b4'
    go_wp2_with fail
    refine SQ.mono ?_
    rintro e w5 ⟨⟨b, rfl, -⟩, b5⟩
    have b5' : Below w2.heap.size w2 w5 := H4.out.trans (b5.mono H4.out.size)
    clear SQ b5 H4 d0 d1 d2 d3 d4 d5
    obtain ⟨N1, N2, B5, R5, Q5⟩ := HW'.out w5 b5'
    cases b with
    | false =>
      clear N1 N2 R5 Q5 b5'
      go_wp2_with fail
      go_ret
      exact ⟨rfl, B5⟩
    | true =>
      have e0 := N1.cellv (v := .slice a0 n0 c0) 0 rfl
      have e1 := N1.cellv (v := .slice a1 n1 c1) 1 rfl
      have e2 := N1.cellv (v := .slice a2 n2 c2) 2 rfl
      have e3 := N1.cellv (v := .slice a3 n3 c3) 3 rfl
      have e4 := N1.cellv (v := .slice a4 n4 c4) 4 rfl
      have d0 := N2.cellv (v := .string x0) 0 rfl
      have d1 := N2.cellv (v := .slice ag ng cg) 1 rfl
      have d2 := N2.cellv (v := .string x2) 2 rfl
      have d3 := N2.cellv (v := .string x3) 3 rfl
      have d4 := N2.cellv (v := .string x4) 4 rfl
      have d5 := N2.cellv (v := .int .i64 x5) 5 rfl
      have H5 : Hd (Below w2.heap.size w2 w5) := ⟨b5'⟩
      clear N1 N2 B5 R5 Q5 b5'
      go_upto_region 5 with fail
      go_cut [5] from 22 to 49 (fun s5 wx => Hd (s5 = .bool (emB n0 n1 n2 n3 n4) ∧ wx = w5))
      case first =>
        by_cases h0 : n0 = 0
        · skip
          by_cases h1 : n1 = 0
          · skip
            have E : Hd (emB n0 n1 n2 n3 n4 = true) := ⟨by unfold emB; simp [h0, h1]⟩
            have z0 := zero_yes h0
            have z1 := zero_yes h1
            clear h0 h1
            go_wp2_with fail
            go_meet
            exact ⟨by rw [E.out], rfl⟩
          · skip
            by_cases h2 : n2 = 0
            · skip
              have E : Hd (emB n0 n1 n2 n3 n4 = true) := ⟨by unfold emB; simp [h0, h1, h2]⟩
              have z0 := zero_yes h0
              have z1 := zero_no h1
              have z2 := zero_yes h2
              clear h0 h1 h2
              go_wp2_with fail
              go_meet
              exact ⟨by rw [E.out], rfl⟩
            · skip
              by_cases h3 : n3 = 0
              · skip
                have E : Hd (emB n0 n1 n2 n3 n4 = true) := ⟨by unfold emB; simp [h0, h1, h2, h3]⟩
                have z0 := zero_yes h0
                have z1 := zero_no h1
                have z2 := zero_no h2
                have z3 := zero_yes h3
                clear h0 h1 h2 h3
                go_wp2_with fail
                go_meet
                exact ⟨by rw [E.out], rfl⟩
              · skip
                by_cases h4 : n4 = 0
                · skip
                  have E : Hd (emB n0 n1 n2 n3 n4 = true) := ⟨by unfold emB; simp [h0, h1, h2, h3, h4]⟩
                  have z0 := zero_yes h0
                  have z1 := zero_no h1
                  have z2 := zero_no h2
                  have z3 := zero_no h3
                  have z4 := zero_yes h4
                  clear h0 h1 h2 h3 h4
                  go_wp2_with fail
                  go_meet
                  exact ⟨by rw [E.out], rfl⟩
                · skip
                  have E : Hd (emB n0 n1 n2 n3 n4 = false) := ⟨by unfold emB; simp [h0, h1, h2, h3, h4]⟩
                  have z0 := zero_yes h0
                  have z1 := zero_no h1
                  have z2 := zero_no h2
                  have z3 := zero_no h3
                  have z4 := zero_no h4
                  clear h0 h1 h2 h3 h4
                  go_wp2_with fail
                  go_meet
                  exact ⟨by rw [E.out], rfl⟩
        · skip
          by_cases h2 : n2 = 0
          · skip
            have E : Hd (emB n0 n1 n2 n3 n4 = true) := ⟨by unfold emB; simp [h0, h2]⟩
            have z0 := zero_no h0
            have z2 := zero_yes h2
            clear h0 h2
            go_wp2_with fail
            go_meet
            exact ⟨by rw [E.out], rfl⟩
          · skip
            by_cases h3 : n3 = 0
            · skip
              have E : Hd (emB n0 n1 n2 n3 n4 = true) := ⟨by unfold emB; simp [h0, h2, h3]⟩
              have z0 := zero_no h0
              have z2 := zero_no h2
              have z3 := zero_yes h3
              clear h0 h2 h3
              go_wp2_with fail
              go_meet
              exact ⟨by rw [E.out], rfl⟩
            · skip
              by_cases h4 : n4 = 0
              · skip
                have E : Hd (emB n0 n1 n2 n3 n4 = true) := ⟨by unfold emB; simp [h0, h2, h3, h4]⟩
                have z0 := zero_no h0
                have z2 := zero_no h2
                have z3 := zero_no h3
                have z4 := zero_yes h4
                clear h0 h2 h3 h4
                go_wp2_with fail
                go_meet
                exact ⟨by rw [E.out], rfl⟩
              · skip
                have E : Hd (emB n0 n1 n2 n3 n4 = false) := ⟨by unfold emB; simp [h0, h2, h3, h4]⟩
                have z0 := zero_no h0
                have z2 := zero_no h2
                have z3 := zero_no h3
                have z4 := zero_no h4
                clear h0 h2 h3 h4
                go_wp2_with fail
                go_meet
                exact ⟨by rw [E.out], rfl⟩
      case rest =>
        obtain ⟨hs5, hw5⟩ := hcut.out
        clear hcut
        subst hs5
        obtain rfl := hw5.symm
        clear hw5
        have NA := Blk.new w5 39 #[.slice a0 n0 c0, .slice a1 n1 c1, .slice a2 n2 c2, .slice a3 n3 c3, .slice a4 n4 c4]
        have AB := alloc_below w5 (.cells #[.slice a0 n0 c0, .slice a1 n1 c1, .slice a2 n2 c2, .slice a3 n3 c3, .slice a4 n4 c4] 39)
        have H6 : Hd (Below w2.heap.size w2 (w5.alloc (.cells #[.slice a0 n0 c0, .slice a1 n1 c1, .slice a2 n2 c2, .slice a3 n3 c3, .slice a4 n4 c4] 39))) := ⟨H5.out.trans (AB.mono H5.out.size)⟩
        have HS : Hd (w2.heap.size ≤ w5.heap.size) := ⟨H5.out.size⟩
        go_upto_region 7 with fail
        clear e0 e1 e2 e3 e4 d0 d1 d2 d3 d4 d5 AB H5
        generalize w5.alloc _ = W at *
        generalize w5.heap.size = A at *
        obtain ⟨NU, NV, BV, S0, S1, S2, S3⟩ := all_world W A w2.heap.size NA.lt HS.out NA
        have e0 := NU.cellv (v := .slice a0 n0 c0) 0 rfl
        have e2 := NU.cellv (v := .slice a2 n2 c2) 2 rfl
        have e3 := NU.cellv (v := .slice a3 n3 c3) 3 rfl
        have e4 := NU.cellv (v := .slice a4 n4 c4) 4 rfl
        have f0 := NU.frozen 0
        have f2 := NU.frozen 2
        have f3 := NU.frozen 3
        have f4 := NU.frozen 4
        have HV : Hd _ := ⟨And.intro NV (And.intro (H6.out.trans BV) (And.intro S0 (And.intro S1 (And.intro S2 S3))))⟩
        clear NU NV BV S0 S1 S2 S3 NA
        go_upto_region 8 with fail
        generalize W.heap.size + 1 + 1 + 1 = g3 at *
        generalize W.heap.size + 1 + 1 = g2 at *
        generalize W.heap.size + 1 = g1 at *
        generalize W.heap.size = g0 at *
        clear e0 e2 e3 e4 f0 f2 f3 f4
        generalize World.setCell _ _ _ = W7 at *
        obtain ⟨NV, BV, S0, S1, S2, S3⟩ := HV.out
        have AN := alloc_below W7 (.cells #[.slice none 0 0, .slice none 0 0, .slice (some ⟨g1, 0, none⟩) 1 1, .slice (some ⟨g2, 0, none⟩) 1 1, .slice (some ⟨g3, 0, none⟩) 1 1] 39)
        have NN := Blk.new W7 39 #[.slice none 0 0, .slice none 0 0, .slice (some ⟨g1, 0, none⟩) 1 1, .slice (some ⟨g2, 0, none⟩) 1 1, .slice (some ⟨g3, 0, none⟩) 1 1]
        have NA := NV.kept (Kept.of_below AN (fun _ => False)) id
        have B8 : Below w2.heap.size w2 (W7.alloc (.cells #[.slice none 0 0, .slice none 0 0, .slice (some ⟨g1, 0, none⟩) 1 1, .slice (some ⟨g2, 0, none⟩) 1 1, .slice (some ⟨g3, 0, none⟩) 1 1] 39)) := BV.trans (AN.mono BV.size)
        have e0 := NV.cellv (v := .slice (some ⟨g0, 0, none⟩) 1 1) 0 rfl
        have e1 := NV.cellv (v := .slice a1 n1 c1) 1 rfl
        have e2 := NV.cellv (v := .slice (some ⟨g1, 0, none⟩) 1 1) 2 rfl
        have e3 := NV.cellv (v := .slice (some ⟨g2, 0, none⟩) 1 1) 3 rfl
        have e4 := NV.cellv (v := .slice (some ⟨g3, 0, none⟩) 1 1) 4 rfl
        have HR : Hd (∀ W, Below (W7.alloc (.cells #[.slice none 0 0, .slice none 0 0, .slice (some ⟨g1, 0, none⟩) 1 1, .slice (some ⟨g2, 0, none⟩) 1 1, .slice (some ⟨g3, 0, none⟩) 1 1] 39)).heap.size (W7.alloc (.cells #[.slice none 0 0, .slice none 0 0, .slice (some ⟨g1, 0, none⟩) 1 1, .slice (some ⟨g2, 0, none⟩) 1 1, .slice (some ⟨g3, 0, none⟩) 1 1] 39)) W → (Blk W A1 39 #[.slice a0 n0 c0, .slice a1 n1 c1, .slice a2 n2 c2, .slice a3 n3 c3, .slice a4 n4 c4] ∧ Blk W A2 27 #[.string x0, .slice ag ng cg, .string x2, .string x3, .string x4, .int .i64 x5] ∧ Blk W A 39 #[.slice (some ⟨g0, 0, none⟩) 1 1, .slice a1 n1 c1, .slice (some ⟨g1, 0, none⟩) 1 1, .slice (some ⟨g2, 0, none⟩) 1 1, .slice (some ⟨g3, 0, none⟩) 1 1] ∧ Blk W W7.heap.size 39 #[.slice none 0 0, .slice none 0 0, .slice (some ⟨g1, 0, none⟩) 1 1, .slice (some ⟨g2, 0, none⟩) 1 1, .slice (some ⟨g3, 0, none⟩) 1 1]) ∧ Below w.heap.size w W
            ∧ (Calls Try.prog 14 #[.agg #[.slice a0 n0 c0, .slice a1 n1 c1, .slice a2 n2 c2, .slice a3 n3 c3, .slice a4 n4 c4], .agg #[.string x0, .slice ag ng cg, .string x2, .string x3, .string x4, .int .i64 x5]] W fun e w' => e = .returned (.bool (ruleB r ⟨x0, L, x2, x3, x4, x5⟩)) ∧ Below W.heap.size W w')
            ∧ (Calls Try.prog 14 #[.agg #[.slice (some ⟨g0, 0, none⟩) 1 1, .slice a1 n1 c1, .slice (some ⟨g1, 0, none⟩) 1 1, .slice (some ⟨g2, 0, none⟩) 1 1, .slice (some ⟨g3, 0, none⟩) 1 1], .agg #[.string x0, .slice ag ng cg, .string x2, .string x3, .string x4, .int .i64 x5]] W fun e w' => e = .returned (.bool true) ∧ Below W.heap.size W w')
            ∧ (Calls Try.prog 14 #[.agg #[.slice none 0 0, .slice none 0 0, .slice (some ⟨g1, 0, none⟩) 1 1, .slice (some ⟨g2, 0, none⟩) 1 1, .slice (some ⟨g3, 0, none⟩) 1 1], .agg #[.string x0, .slice ag ng cg, .string x2, .string x3, .string x4, .int .i64 x5]] W fun e w' => e = .returned (.bool false) ∧ Below W.heap.size W w')) := ⟨fun W b => by
          have bw : Below w2.heap.size w2 W := B8.trans (b.mono B8.size)
          have b7 : Below W7.heap.size W7 W := AN.trans (b.mono AN.size)
          obtain ⟨M1, M2, M3, M4, -⟩ := HW'.out W bw
          have G := HG.out W bw
          have I2 := rule_ok ⟨[⟨#[42]⟩], r.groups, [⟨#[42]⟩], [⟨#[42]⟩], [⟨#[42]⟩]⟩ ⟨x0, L, x2, x3, x4, x5⟩ W ⟨S0.carry b7, M4.2.1, S1.carry b7, S2.carry b7, S3.carry b7⟩ G
          have I3 := rule_ok ⟨[], [], [⟨#[42]⟩], [⟨#[42]⟩], [⟨#[42]⟩]⟩ ⟨x0, L, x2, x3, x4, x5⟩ W ⟨ls_nil W, ls_nil W, S1.carry b7, S2.carry b7, S3.carry b7⟩ G
          rw [ruleB_all] at I2
          rw [ruleB_none] at I3
          exact ⟨⟨M1, M2, NA.kept (Kept.of_below b (fun _ => False)) id, NN.kept (Kept.of_below b (fun _ => False)) id⟩, M3, rule_ok r ⟨x0, L, x2, x3, x4, x5⟩ W M4 G, I2, I3⟩⟩
        have HE : Hd (emB n0 n1 n2 n3 n4 = true → ruleB r ⟨x0, L, x2, x3, x4, x5⟩ = false) := ⟨fun h => by
          obtain ⟨-, -, -, ⟨⟨_, _, q0, -⟩, ⟨_, _, q1, -⟩, ⟨_, _, q2, -⟩, ⟨_, _, q3, -⟩, ⟨_, _, q4, -⟩⟩, -⟩ := HW'.out _ BV
          injection q0 with _ q0
          injection q1 with _ q1
          injection q2 with _ q2
          injection q3 with _ q3
          injection q4 with _ q4
          rw [q0, q1, q2, q3, q4] at h
          exact ruleB_em h⟩
        clear NV BV S0 S1 S2 S3 AN NN NA B8 HV HG H6 HS
        generalize emB n0 n1 n2 n3 n4 = eb at *
        generalize ruleB r ⟨x0, L, x2, x3, x4, x5⟩ = rb at *
        go_upto_region 10 with fail
        clear e0 e1 e2 e3 e4
        generalize W7.heap.size = A9 at *
        generalize W7.alloc _ = W8 at *
        obtain ⟨⟨M1, M2, M3, M4⟩, BW, I1, I2, I3⟩ := HR.out W8 (Below.refl _ _)
        have B8 : Hd (Below W8.heap.size W8 W8) := ⟨Below.refl _ _⟩
        cases eb with
        | true =>
          have hrb : rb = false := HE.out rfl
          subst hrb
          have d0 := M2.cellv (v := .string x0) 0 rfl
          have d1 := M2.cellv (v := .slice ag ng cg) 1 rfl
          have d2 := M2.cellv (v := .string x2) 2 rfl
          have d3 := M2.cellv (v := .string x3) 3 rfl
          have d4 := M2.cellv (v := .string x4) 4 rfl
          have d5 := M2.cellv (v := .int .i64 x5) 5 rfl
          have e0 := M1.cellv (v := .slice a0 n0 c0) 0 rfl
          have e1 := M1.cellv (v := .slice a1 n1 c1) 1 rfl
          have e2 := M1.cellv (v := .slice a2 n2 c2) 2 rfl
          have e3 := M1.cellv (v := .slice a3 n3 c3) 3 rfl
          have e4 := M1.cellv (v := .slice a4 n4 c4) 4 rfl
          clear M1 M2 M3 M4 I2 I3 HE BW
          go_wp2_with fail
          refine I1.mono ?_
          rintro e w9 ⟨rfl, b9⟩
          clear I1 d0 d1 d2 d3 d4 d5 e0 e1 e2 e3 e4
          obtain ⟨⟨M1, M2, M3, M4⟩, BW, I1, I2, I3⟩ := HR.out w9 b9
          have d0 := M2.cellv (v := .string x0) 0 rfl
          have d1 := M2.cellv (v := .slice ag ng cg) 1 rfl
          have d2 := M2.cellv (v := .string x2) 2 rfl
          have d3 := M2.cellv (v := .string x3) 3 rfl
          have d4 := M2.cellv (v := .string x4) 4 rfl
          have d5 := M2.cellv (v := .int .i64 x5) 5 rfl
          have e0 := M3.cellv (v := .slice (some ⟨g0, 0, none⟩) 1 1) 0 rfl
          have e1 := M3.cellv (v := .slice a1 n1 c1) 1 rfl
          have e2 := M3.cellv (v := .slice (some ⟨g1, 0, none⟩) 1 1) 2 rfl
          have e3 := M3.cellv (v := .slice (some ⟨g2, 0, none⟩) 1 1) 3 rfl
          have e4 := M3.cellv (v := .slice (some ⟨g3, 0, none⟩) 1 1) 4 rfl
          have HB9 : Hd (Below W8.heap.size W8 w9) := ⟨b9⟩
          clear M1 M2 M3 M4 I1 I3 BW b9
          go_wp2_with fail
          refine I2.mono ?_
          rintro e w10 ⟨rfl, b10⟩
          have b10' : Below W8.heap.size W8 w10 := HB9.out.trans (b10.mono HB9.out.size)
          clear I2 d0 d1 d2 d3 d4 d5 e0 e1 e2 e3 e4 b10
          obtain ⟨⟨M1, M2, M3, M4⟩, BW, I1, I2, I3⟩ := HR.out w10 b10'
          have d0 := M2.cellv (v := .string x0) 0 rfl
          have d1 := M2.cellv (v := .slice ag ng cg) 1 rfl
          have d2 := M2.cellv (v := .string x2) 2 rfl
          have d3 := M2.cellv (v := .string x3) 3 rfl
          have d4 := M2.cellv (v := .string x4) 4 rfl
          have d5 := M2.cellv (v := .int .i64 x5) 5 rfl
          have e0 := M4.cellv (v := .slice none 0 0) 0 rfl
          have e1 := M4.cellv (v := .slice none 0 0) 1 rfl
          have e2 := M4.cellv (v := .slice (some ⟨g1, 0, none⟩) 1 1) 2 rfl
          have e3 := M4.cellv (v := .slice (some ⟨g2, 0, none⟩) 1 1) 3 rfl
          have e4 := M4.cellv (v := .slice (some ⟨g3, 0, none⟩) 1 1) 4 rfl
          have HBA : Hd (Below W8.heap.size W8 w10) := ⟨b10'⟩
          clear M1 M2 M3 M4 I1 I2 BW b10'
          go_wp2_with fail
          refine I3.mono ?_
          rintro e w11 ⟨rfl, b11⟩
          have HBB : Hd (Below w.heap.size w w11) := ⟨(HR.out w11 (HBA.out.trans (b11.mono HBA.out.size))).2.1⟩
          clear I3 d0 d1 d2 d3 d4 d5 e0 e1 e2 e3 e4 b11 HR HW'
          go_wp2_with fail
          go_ret
          exact ⟨rfl, HBB.out⟩
        | false =>
          clear M1 M2 M3 M4 I1 I2 I3 HE BW
          have b9 := B8.out
          obtain ⟨⟨M1, M2, M3, M4⟩, BW, I1, I2, I3⟩ := HR.out W8 b9
          have d0 := M2.cellv (v := .string x0) 0 rfl
          have d1 := M2.cellv (v := .slice ag ng cg) 1 rfl
          have d2 := M2.cellv (v := .string x2) 2 rfl
          have d3 := M2.cellv (v := .string x3) 3 rfl
          have d4 := M2.cellv (v := .string x4) 4 rfl
          have d5 := M2.cellv (v := .int .i64 x5) 5 rfl
          have e0 := M3.cellv (v := .slice (some ⟨g0, 0, none⟩) 1 1) 0 rfl
          have e1 := M3.cellv (v := .slice a1 n1 c1) 1 rfl
          have e2 := M3.cellv (v := .slice (some ⟨g1, 0, none⟩) 1 1) 2 rfl
          have e3 := M3.cellv (v := .slice (some ⟨g2, 0, none⟩) 1 1) 3 rfl
          have e4 := M3.cellv (v := .slice (some ⟨g3, 0, none⟩) 1 1) 4 rfl
          have HB9 : Hd (Below W8.heap.size W8 W8) := ⟨b9⟩
          clear M1 M2 M3 M4 I1 I3 BW b9
          go_wp2_with fail
          refine I2.mono ?_
          rintro e w10 ⟨rfl, b10⟩
          have b10' : Below W8.heap.size W8 w10 := HB9.out.trans (b10.mono HB9.out.size)
          clear I2 d0 d1 d2 d3 d4 d5 e0 e1 e2 e3 e4 b10
          obtain ⟨⟨M1, M2, M3, M4⟩, BW, I1, I2, I3⟩ := HR.out w10 b10'
          have d0 := M2.cellv (v := .string x0) 0 rfl
          have d1 := M2.cellv (v := .slice ag ng cg) 1 rfl
          have d2 := M2.cellv (v := .string x2) 2 rfl
          have d3 := M2.cellv (v := .string x3) 3 rfl
          have d4 := M2.cellv (v := .string x4) 4 rfl
          have d5 := M2.cellv (v := .int .i64 x5) 5 rfl
          have e0 := M4.cellv (v := .slice none 0 0) 0 rfl
          have e1 := M4.cellv (v := .slice none 0 0) 1 rfl
          have e2 := M4.cellv (v := .slice (some ⟨g1, 0, none⟩) 1 1) 2 rfl
          have e3 := M4.cellv (v := .slice (some ⟨g2, 0, none⟩) 1 1) 3 rfl
          have e4 := M4.cellv (v := .slice (some ⟨g3, 0, none⟩) 1 1) 4 rfl
          have HBA : Hd (Below W8.heap.size W8 w10) := ⟨b10'⟩
          clear M1 M2 M3 M4 I1 I2 BW b10'
          go_wp2_with fail
          refine I3.mono ?_
          rintro e w11 ⟨rfl, b11⟩
          have HBB : Hd (Below w.heap.size w w11) := ⟨(HR.out w11 (HBA.out.trans (b11.mono HBA.out.size))).2.1⟩
          clear I3 d0 d1 d2 d3 d4 d5 e0 e1 e2 e3 e4 b11 HR HW'
          go_wp2_with fail
          go_ret
          exact ⟨rfl, HBB.out⟩
end Go.Proofs.Ytendblngcbknpaa
