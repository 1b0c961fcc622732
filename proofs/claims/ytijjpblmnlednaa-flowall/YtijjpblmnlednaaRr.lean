/-
  Whom a rule and a schema speak of, by the reference. Condition: they and the request lie in memory.
-/
import Derived.Test.YtijjpblmnlednaaSb
import Derived.Test.YtijjpblmnlednaaOrQ
import Derived.BigQuiet
import Derived.Deep.RegionHeld
namespace Go.Proofs.Ytijjpblmnlednaa
open Go.RowKit

theorem below_dr (w : World) (n : Nat) : Below w.heap.size w (w.drewN n) := ⟨rfl, rfl, rfl, Nat.le_refl _, fun _ _ => rfl⟩
set_option maxHeartbeats 1000000 in
theorem rrule_ok {a0 a1 a2 a3 a4 ag : Option Addr} {n0 n1 n2 n3 n4 ng c0 c1 c2 c3 c4 cg : Nat} (r : Rl) (q : Rq) (w : World) (hr : RuR w (.slice a0 n0 c0) (.slice a1 n1 c1) (.slice a2 n2 c2) (.slice a3 n3 c3) (.slice a4 n4 c4) r) (hq : LsR w (.slice ag ng cg) q.groups) :
    Calls Try.prog 24 #[.agg #[.slice a0 n0 c0, .slice a1 n1 c1, .slice a2 n2 c2, .slice a3 n3 c3, .slice a4 n4 c4], .agg #[.string q.user, .slice ag ng cg, .string q.verb, .string q.resource, .string q.space, .int .i64 q.objects]] w fun e w' => e = .returned (.bool (ruleB r q)) ∧ Below w.heap.size w w' := by
  obtain ⟨w2, hw2⟩ : ∃ w2, w2 = (w.alloc (.cells #[.slice a0 n0 c0, .slice a1 n1 c1, .slice a2 n2 c2, .slice a3 n3 c3, .slice a4 n4 c4] 52)).alloc (.cells #[.string q.user, .slice ag ng cg, .string q.verb, .string q.resource, .string q.space, .int .i64 q.objects] 25) := ⟨_, rfl⟩
  have BX := boxes w 52 25 #[.slice a0 n0 c0, .slice a1 n1 c1, .slice a2 n2 c2, .slice a3 n3 c3, .slice a4 n4 c4] #[.string q.user, .slice ag ng cg, .string q.verb, .string q.resource, .string q.space, .int .i64 q.objects]
  rw [← hw2] at BX
  obtain ⟨B, N1, N2⟩ := BX
  have V0 := rhas_ok _ r.users q.user w2 (hr.1.carry B)
  have V1 := rhas_ok _ r.verbs q.verb w2 (hr.2.2.1.carry B)
  have V2 := rhas_ok _ r.resources q.resource w2 (hr.2.2.2.1.carry B)
  have V3 := rhas_ok _ r.spaces q.space w2 (hr.2.2.2.2.carry B)
  have HG : Hd (∀ W, Below w2.heap.size w2 W → ∀ x, Calls Try.prog 31 #[.slice a1 n1 c1, .string x] W fun e w' => e = .returned (.bool (hasB r.groups x)) ∧ w' = W) := ⟨fun W b x => rhas_ok _ r.groups x _ ((hr.2.1.carry B).carry b)⟩
  have HQ : Hd (LsR w2 (.slice ag ng cg) q.groups) := ⟨hq.carry B⟩
  have HB : Hd (Below w.heap.size w w2) := ⟨B⟩
  have HC : Hd (∀ W, Below w2.heap.size w2 W → W.cell? ⟨w.heap.size, 1, none⟩ = some (.slice a1 n1 c1) ∧ W.cell? ⟨w.heap.size + 1, 1, none⟩ = some (.slice ag ng cg)) := ⟨fun W b => ⟨(N1.kept (Kept.of_below b (fun _ => False)) id).cellv 1 rfl, (N2.kept (Kept.of_below b (fun _ => False)) id).cellv 1 rfl⟩⟩
  have e0 := N1.cellv (v := .slice a0 n0 c0) 0 rfl
  have e1 := N1.cellv (v := .slice a1 n1 c1) 1 rfl
  have e2 := N1.cellv (v := .slice a2 n2 c2) 2 rfl
  have e3 := N1.cellv (v := .slice a3 n3 c3) 3 rfl
  have e4 := N1.cellv (v := .slice a4 n4 c4) 4 rfl
  have d0 := N2.cellv (v := .string q.user) 0 rfl
  have d1 := N2.cellv (v := .slice ag ng cg) 1 rfl
  have d2 := N2.cellv (v := .string q.verb) 2 rfl
  have d3 := N2.cellv (v := .string q.resource) 3 rfl
  have d4 := N2.cellv (v := .string q.space) 4 rfl
  clear N1 N2 B hr hq
  unfold ruleB askB
  generalize hasB r.users q.user = b0 at *
  generalize hasB r.verbs q.verb = b1 at *
  generalize hasB r.resources q.resource = b2 at *
  generalize hasB r.spaces q.space = b3 at *
  obtain ⟨x0, L, x2, x3, x4, x5⟩ := q
  simp only at *
  go_enter Try.func24, Try.ntmps24
  go_upto_region 1 with fail
  rw [← hw2]
  clear hw2
  generalize w.heap.size + 1 = A2 at *
  obtain ⟨A1, hA1⟩ : ∃ A1, A1 = w.heap.size := ⟨_, rfl⟩
  rw [← hA1] at e0 e1 e2 e3 e4 HC ⊢
  clear hA1
  go_wp2_with fail
  cases b1 with
  | false =>
    refine V1.mono ?_
    rintro e w' ⟨rfl, hw⟩
    obtain rfl := hw.symm
    go_wp2_with fail
    go_ret
    exact ⟨by cases b0 <;> cases anyG r.groups L <;> rfl, HB.out⟩
  | true =>
    refine V1.mono ?_
    rintro e w' ⟨rfl, hw⟩
    obtain rfl := hw.symm
    go_wp2_with fail
    cases b2 with
    | false =>
      refine V2.mono ?_
      rintro e w' ⟨rfl, hw⟩
      obtain rfl := hw.symm
      go_wp2_with fail
      go_ret
      exact ⟨by cases b0 <;> cases anyG r.groups L <;> rfl, HB.out⟩
    | true =>
      refine V2.mono ?_
      rintro e w' ⟨rfl, hw⟩
      obtain rfl := hw.symm
      go_wp2_with fail
      cases b3 with
      | false =>
        refine V3.mono ?_
        rintro e w' ⟨rfl, hw⟩
        obtain rfl := hw.symm
        go_wp2_with fail
        go_ret
        exact ⟨by cases b0 <;> cases anyG r.groups L <;> rfl, HB.out⟩
      | true =>
        refine V3.mono ?_
        rintro e w' ⟨rfl, hw⟩
        obtain rfl := hw.symm
        go_wp2_with fail
        cases b0 with
        | true =>
          refine V0.mono ?_
          rintro e w' ⟨rfl, hw⟩
          obtain rfl := hw.symm
          go_wp2_with fail
          go_ret
          exact ⟨rfl, HB.out⟩
        | false =>
          refine V0.mono ?_
          rintro e w' ⟨rfl, hw⟩
          obtain rfl := hw.symm
          go_wp2_with fail
          clear V0 V1 V2 V3 e0 e1 e2 e3 e4 d0 d1 d2 d3 d4
          obtain ⟨a', c', e', hr', hc', hl', -⟩ := HQ.out
          have hng : ng = L.length := by injection e'
          have hag : ag = a' := by injection e'
          subst hag
          have HN : Hd (ng = L.length) := ⟨hng⟩
          have HR : Hd (RowL w2 ag L) := ⟨hr'⟩
          rw [← hng] at hl'
          clear hr' hc' e' HQ hng
          go_loopw [5] (fun i wr => ∃ k : Nat, k ≤ ng ∧ i = .int .i64 k ∧ Hd (∀ j (_ : j < L.length), j < k → hasB r.groups (gt L j) = false) ∧ Below w2.heap.size w2 wr) (fun i _ => ng - (intOf i).toNat)
          case atStart => exact ⟨0, Nat.zero_le _, rfl, ⟨fun j _ h => absurd h (Nat.not_lt_zero _)⟩, Below.refl _ _⟩
          case round =>
            obtain ⟨k, hk, rfl, hno, hbw⟩ := hrel
            obtain ⟨e1, d1⟩ := HC.out wr hbw
            have HBW : Hd (Below w2.heap.size w2 wr) := ⟨hbw⟩
            by_cases hlt : k < ng
            · have hkL : k < L.length := by rw [← HN.out]; exact hlt
              obtain ⟨b, off, rfl, hb, hc⟩ := HR.out (by omega)
              have ck := (hbw.cell (p := ⟨b, off + k, none⟩) hb).trans (hc k hkL)
              have HI : Hd (k < ng) := ⟨hlt⟩
              have I : Hd (∀ n, Calls Try.prog 31 #[.slice a1 n1 c1, .string (gt L k)] (wr.drewN n) fun e w' => e = .returned (.bool (hasB r.groups (gt L k))) ∧ w' = wr.drewN n) := ⟨fun n => HG.out _ (hbw.trans ((below_dr wr n).mono hbw.size)) _⟩
              clear hc
              cases hx : hasB r.groups (gt L k) with
              | true =>
                have A : Hd (anyG r.groups L = true) := ⟨anyG_yes hkL hx⟩
                rw [hx] at I
                have J := I.out
                clear hno hx hkL I hbw hb
                generalize hy : gt L k = y at ck J
                clear hy
                go_wp2
                go_quiet ((go_at_call 31; exact Calls.quiet_of_same (J _)))
                go_wp2
                go_ret
                have BE := HBW.out.trans ((below_dr wr nq).mono HBW.out.size)
                exact ⟨by rw [A.out]; rfl, HB.out.trans (BE.mono HB.out.size)⟩
              | false =>
                have A : Hd (∀ j (_ : j < L.length), j < k + 1 → hasB r.groups (gt L j) = false) := ⟨nextG hno.out hx⟩
                rw [hx] at I
                have J := I.out
                clear hno hx hkL I hbw hb
                generalize hy : gt L k = y at ck J
                clear hy
                go_wp2
                go_quiet ((go_at_call 31; exact Calls.quiet_of_same (J _)))
                go_wp2
                go_roundw
                case rel => exact ⟨k + 1, HI.out, by go_num, A, HBW.out.trans ((below_dr wr nq).mono HBW.out.size)⟩
                case measure => have := HI.out; simp [intOf]; omega
            · obtain rfl : k = ng := by omega
              have A : Hd (anyG r.groups L = false) := ⟨anyG_no fun j hj => hno.out j hj (by have := HN.out; omega)⟩
              clear hno hbw
              go_wp2
              go_ret
              exact ⟨by rw [A.out]; rfl, HB.out.trans (HBW.out.mono HB.out.size)⟩

set_option maxHeartbeats 1000000 in
theorem rschema_ok {ag ar : Option Addr} {ng cg nr cr : Nat} {y0 y1 : ByteArray} {y2 y3 : Int} (rs : List Rl) (q : Rq) (w : World) (hv : RlR w (.slice ar nr cr) rs) (hq : LsR w (.slice ag ng cg) q.groups) :
    Calls Try.prog 18 #[.agg #[.string y0, .string y1, .int .i64 y2, .int .i64 y3, .slice ar nr cr], .agg #[.string q.user, .slice ag ng cg, .string q.verb, .string q.resource, .string q.space, .int .i64 q.objects]] w fun e w' => e = .returned (.bool (schB rs q)) ∧ Below w.heap.size w w' := by
  obtain ⟨w2, hw2⟩ : ∃ w2, w2 = (w.alloc (.cells #[.string y0, .string y1, .int .i64 y2, .int .i64 y3, .slice ar nr cr] 46)).alloc (.cells #[.string q.user, .slice ag ng cg, .string q.verb, .string q.resource, .string q.space, .int .i64 q.objects] 25) := ⟨_, rfl⟩
  have BX := boxes w 46 25 #[.string y0, .string y1, .int .i64 y2, .int .i64 y3, .slice ar nr cr] #[.string q.user, .slice ag ng cg, .string q.verb, .string q.resource, .string q.space, .int .i64 q.objects]
  rw [← hw2] at BX
  obtain ⟨B, N1, N2⟩ := BX
  have HB : Hd (Below w.heap.size w w2) := ⟨B⟩
  have hnr : nr = rs.length ∧ rs.length ≤ 9223372036854775807 := by obtain ⟨a, c, e, h9, -⟩ := hv.at; exact ⟨by injection e, h9⟩
  have HN : Hd (nr = rs.length) := ⟨hnr.1⟩
  have hl : nr ≤ 9223372036854775807 := by omega
  have HW : Hd (∀ W, Below w2.heap.size w2 W → Blk W w.heap.size 46 #[.string y0, .string y1, .int .i64 y2, .int .i64 y3, .slice ar nr cr] ∧ Blk W (w.heap.size + 1) 25 #[.string q.user, .slice ag ng cg, .string q.verb, .string q.resource, .string q.space, .int .i64 q.objects] ∧ RlR W (.slice ar nr cr) rs ∧ LsR W (.slice ag ng cg) q.groups) :=
    ⟨fun W b => ⟨N1.kept (Kept.of_below b (fun _ => False)) id, N2.kept (Kept.of_below b (fun _ => False)) id, (hv.carry B).carry b, (hq.carry B).carry b⟩⟩
  clear N1 N2 hv hq B hnr
  go_enter Try.func18, Try.ntmps18
  go_wp2_with fail
  rw [← hw2]
  clear hw2
  generalize w.heap.size + 1 = A2 at *
  obtain ⟨A1, hA1⟩ : ∃ A1, A1 = w.heap.size := ⟨_, rfl⟩
  rw [← hA1] at HW ⊢
  clear hA1
  go_loopw [5] (fun i wr => ∃ k : Nat, k ≤ nr ∧ i = .int .i64 k ∧ Hd (∀ j (_ : j < rs.length), j < k → ruleB rs[j] q = false) ∧ Below w2.heap.size w2 wr) (fun i _ => nr - (intOf i).toNat)
  case atStart => exact ⟨0, Nat.zero_le _, rfl, ⟨fun j _ h => absurd h (Nat.not_lt_zero _)⟩, Below.refl _ _⟩
  case round =>
    obtain ⟨k, hk, rfl, hno, hb⟩ := hrel
    obtain ⟨N1, N2, hR, hQ⟩ := HW.out wr hb
    have e4 := N1.cellv (v := .slice ar nr cr) 4 rfl
    have BB : Hd (Below w2.heap.size w2 wr) := ⟨hb⟩
    by_cases hlt : k < nr
    · have hkR : k < rs.length := by rw [← HN.out]; exact hlt
      obtain ⟨a', c', e', hl', hR'⟩ := (HW.out w2 (Below.refl _ _)).2.2.1.at
      obtain ⟨b, off, rfl, hbl, a0, n0, c0, a1, n1, c1, a2, n2, c2, a3, n3, c3, a4, n4, c4, ⟨k0, k1, k2, k3, k4⟩, hru⟩ := hR' k hkR
      obtain rfl : ar = some ⟨b, off, none⟩ := by injection e'
      have HI : Hd (k < nr) := ⟨hlt⟩
      have HC : Hd (∀ W, Below w2.heap.size w2 W → (W.cell? ⟨b, off + k * 5, none⟩ = some (.slice a0 n0 c0) ∧ W.cell? ⟨b, off + k * 5 + 1, none⟩ = some (.slice a1 n1 c1) ∧ W.cell? ⟨b, off + k * 5 + 2, none⟩ = some (.slice a2 n2 c2) ∧ W.cell? ⟨b, off + k * 5 + 3, none⟩ = some (.slice a3 n3 c3) ∧ W.cell? ⟨b, off + k * 5 + 4, none⟩ = some (.slice a4 n4 c4))
          ∧ (Calls Try.prog 24 #[.agg #[.slice a0 n0 c0, .slice a1 n1 c1, .slice a2 n2 c2, .slice a3 n3 c3, .slice a4 n4 c4], .agg #[.string q.user, .slice ag ng cg, .string q.verb, .string q.resource, .string q.space, .int .i64 q.objects]] W fun e w' => e = .returned (.bool (ruleB rs[k] q)) ∧ Below W.heap.size W w')) :=
        ⟨fun W bb => ⟨⟨(bb.cell (p := ⟨b, off + k * 5, none⟩) hbl).trans k0, (bb.cell (p := ⟨b, off + k * 5 + 1, none⟩) hbl).trans k1, (bb.cell (p := ⟨b, off + k * 5 + 2, none⟩) hbl).trans k2, (bb.cell (p := ⟨b, off + k * 5 + 3, none⟩) hbl).trans k3, (bb.cell (p := ⟨b, off + k * 5 + 4, none⟩) hbl).trans k4⟩, rrule_ok rs[k] q W (hru.carry bb) (HW.out W bb).2.2.2⟩⟩
      have HX : Hd (ruleB rs[k] q = true → schB rs q = true) := ⟨schB_yes hkR⟩
      have HY : Hd (ruleB rs[k] q = false → ∀ j (_ : j < rs.length), j < k + 1 → ruleB rs[j] q = false) := ⟨fun hx => nextR hno.out hkR hx⟩
      clear hR hR' e' hQ N1 N2 hl' hb k0 k1 k2 k3 k4 hru hno hbl
      generalize ruleB rs[k] q = bk at *
      clear hkR
      have HWq : Hd (∀ W, Below w2.heap.size w2 W → Blk W A1 46 #[.string y0, .string y1, .int .i64 y2, .int .i64 y3, .slice (some ⟨b, off, none⟩) nr cr] ∧ Blk W A2 25 #[.string q.user, .slice ag ng cg, .string q.verb, .string q.resource, .string q.space, .int .i64 q.objects]) := ⟨fun W bb => ⟨(HW.out W bb).1, (HW.out W bb).2.1⟩⟩
      go_wp2_with fail
      have DR : Below wr.heap.size wr wr.drew := ⟨rfl, rfl, rfl, Nat.le_refl _, fun _ _ => rfl⟩
      have B0 : Below w2.heap.size w2 wr.drew := BB.out.trans (DR.mono BB.out.size)
      refine AnyG.start (T := fun W => Below w2.heap.size w2 W) (U := fun _ => True) (j0 := 100) (by kernel_rfl) ?_
      clear DR e4 BB
      generalize wr.drew = w0 at *
      refine .tq 0 13 B0 ?_; simp only [tkA, tkB, tkC]
      refine .tq 1 14 B0 ?_ (hy := fun w hSw => by have s4 := (HWq.out w hSw).1.cellv (v := .slice (some ⟨b, off, none⟩) nr cr) 4 rfl; go_simp; rfl); simp only [tkA, tkB, tkC]
      refine .tq 2 15 B0 ?_; simp only [tkA, tkB, tkC]
      refine .tq 3 16 B0 ?_ (hy := fun w hSw => by have hlt := HI.out; go_simp; rfl); simp only [tkA, tkB, tkC]
      refine .tq 4 17 B0 ?_ (hy := fun w hSw => by obtain ⟨⟨s0, s1, s2, s3, s4⟩, -⟩ := HC.out w hSw; go_simp; rfl); simp only [tkA, tkB, tkC]
      refine .tq 5 18 B0 ?_ (hy := fun w hSw => by have M := (HWq.out w hSw).2; have s0 := M.cellv (v := .string q.user) 0 rfl; have s1 := M.cellv (v := .slice ag ng cg) 1 rfl; have s2 := M.cellv (v := .string q.verb) 2 rfl; have s3 := M.cellv (v := .string q.resource) 3 rfl; have s4 := M.cellv (v := .string q.space) 4 rfl; have s5 := M.cellv (v := .int .i64 q.objects) 5 rfl; go_simp; rfl); simp only [tkA, tkB, tkC]
      refine AnyG.ready (rs := [6]) (by kernel_rfl) (by simp) ?_
      refine AllG.cons rfl (fun K hK => ?_) AllG.nil
      go_simp
      refine (HC.out w0 B0).2.mono ?_
      rintro e wk1 ⟨rfl, b1⟩
      have B1 : Below w2.heap.size w2 wk1 := B0.trans (b1.mono B0.size)
      refine hK.out _ _ ⟨B1, fun _ => trivial⟩ ?_
      clear hK K b1 B0
      refine AnyG.done (by kernel_rfl) ?_ _
      cases bk with
      | true =>
        have HX' : Hd (schB rs q = true) := ⟨HX.out rfl⟩
        go_wp2_with fail
        go_ret
        exact ⟨by rw [HX'.out]; rfl, HB.out.trans (B1.mono HB.out.size)⟩
      | false =>
        have HY' : Hd (∀ j (_ : j < rs.length), j < k + 1 → ruleB rs[j] q = false) := ⟨HY.out rfl⟩
        go_wp2_with fail
        go_roundw
        case rel => exact ⟨k + 1, HI.out, by go_num, HY', B1⟩
        case measure => have := HI.out; simp [intOf]; omega
    · obtain rfl : k = nr := by omega
      have A : Hd (schB rs q = false) := ⟨schB_no fun j hj => hno.out j hj (by have := HN.out; omega)⟩
      clear hno N1 N2 hR hQ hb
      go_wp2_with fail
      go_ret
      exact ⟨by rw [A.out]; rfl, HB.out.trans (BB.out.mono HB.out.size)⟩
end Go.Proofs.Ytijjpblmnlednaa
