/-
  The class of a request by the reference: 'Classify'. Condition: schemas and request lie in memory, and names are short.
-/
import Derived.Test.YtijjpblmnlednaaCm
import Derived.Test.YtijjpblmnlednaaRr
namespace Go.Proofs.Ytijjpblmnlednaa
open Go.RowKit

theorem resRcl (tmps : Array Value) (w : World) (g : Nat) {a b c : ByteArray} {d : Nat} (q : Value) (ht : tmps[4]?.getD undef = .pointer (some ⟨g, 0, none⟩)) (hq : tmps[5]?.getD undef = q) (h : Blk w g 34 (clC a b c d)) :
    (results Try.f11 tmps).run Try.prog w = .ok (.tuple #[.agg (clC a b c d), q]) w := by
  obtain ⟨⟨c0, c1, c2, c3⟩, -⟩ := h.four
  simp [results, Try.results11, go_sem, ht, hq, c0, c1, c2, c3, clC]

set_option maxRecDepth 20000 in
set_option maxHeartbeats 4000000 in
theorem rclassify_ok {ag aL aS : Option Addr} {ng cg nL cL nS cS d : Nat} {z0 z1 z2 z3 : Int} (S : List Sc) (q : Rq) (w : World) (hv : SsR w (.slice aS nS cS) S) (hq : LsR w (.slice ag ng cg) q.groups) (hu : q.user.size ≤ 1000) (hs : q.space.size ≤ 1000) (hn : ∀ s ∈ S, s.name.size ≤ 1000) :
    Calls Try.prog 11 #[.agg #[.int .i64 z0, .int .i64 z1, .int .i64 z2, .int .i64 z3, .slice aL nL cL, .slice aS nS cS, .int .u64 d], .agg #[.string q.user, .slice ag ng cg, .string q.verb, .string q.resource, .string q.space, .int .i64 q.objects]] w fun e w' => e = .returned (.tuple #[.agg (clOf (findS S q) q), .int .i64 (erOf (findS S q))]) ∧ Below w.heap.size w w' := by
  obtain ⟨w2, hw2⟩ : ∃ w2, w2 = ((w.alloc (.cells #[.int .i64 z0, .int .i64 z1, .int .i64 z2, .int .i64 z3, .slice aL nL cL, .slice aS nS cS, .int .u64 d] 39)).alloc (.cells #[.string q.user, .slice ag ng cg, .string q.verb, .string q.resource, .string q.space, .int .i64 q.objects] 25)).alloc (.cells #[.string ⟨#[]⟩, .string ⟨#[]⟩, .string ⟨#[]⟩, .int .u64 0] 34) := ⟨_, rfl⟩
  have BX := boxes3 w 39 25 34 #[.int .i64 z0, .int .i64 z1, .int .i64 z2, .int .i64 z3, .slice aL nL cL, .slice aS nS cS, .int .u64 d] #[.string q.user, .slice ag ng cg, .string q.verb, .string q.resource, .string q.space, .int .i64 q.objects] #[.string ⟨#[]⟩, .string ⟨#[]⟩, .string ⟨#[]⟩, .int .u64 0]
  rw [← hw2] at BX
  obtain ⟨B, N1, N2, N3⟩ := BX
  obtain ⟨aS', cS', eS, hl, -⟩ := hv.at
  have hnS : nS = S.length := by injection eS
  have HN : Hd (nS = S.length) := ⟨hnS⟩
  have HW : Hd (∀ W, Below w2.heap.size w2 W → Blk W (w.heap.size + 1) 25 #[.string q.user, .slice ag ng cg, .string q.verb, .string q.resource, .string q.space, .int .i64 q.objects] ∧ Blk W (w.heap.size + 1 + 1) 34 clZ ∧ SsR W (.slice aS nS cS) S ∧ LsR W (.slice ag ng cg) q.groups) := ⟨fun W b => ⟨N2.kept (Kept.of_below b (fun _ => False)) id, N3.kept (Kept.of_below b (fun _ => False)) id, (hv.carry B).carry b, (hq.carry B).carry b⟩⟩
  have HB : Hd (Below w.heap.size w w2) := ⟨B⟩
  have HU : Hd (∀ k, k < S.length → ∃ b off, aS = some ⟨b, off, none⟩ ∧ b < w.heap.size) := ⟨fun k hk => by
    obtain ⟨a, c, e, -, h⟩ := hv.at
    obtain ⟨b, off, rfl, hb, -⟩ := h k hk
    exact ⟨b, off, by injection e, hb⟩⟩
  have HK : Hd (∀ n : Int, (keyB n q).size ≤ 1000) := ⟨fun n => keyB_size hu hs⟩
  have HM : Hd (∀ s ∈ S, s.name.size ≤ 1000) := ⟨hn⟩
  have e5 := N1.cellv (v := .slice aS nS cS) 5 rfl
  have NE : Hd (w.heap.size + 1 ≠ w.heap.size + 1 + 1 ∧ ∀ b, b < w.heap.size → b ≠ w.heap.size + 1 + 1) := ⟨by omega, fun b h => by omega⟩
  have LE : Hd (w.heap.size ≤ w.heap.size + 1 + 1) := ⟨by omega⟩
  rw [← hnS] at hl
  clear N1 N2 N3 B hv hq hu hs hn eS hnS
  go_enter Try.func11, Try.ntmps11
  go_upto_region 1 with fail
  rw [← hw2]
  clear hw2
  generalize w.heap.size + 1 + 1 = A3 at *
  generalize w.heap.size + 1 = A2 at *
  obtain ⟨A1, hA1⟩ : ∃ A1, A1 = w.heap.size := ⟨_, rfl⟩
  have HA : Hd (A1 = w.heap.size) := ⟨hA1⟩
  rw [← hA1] at e5 HB LE NE HU ⊢
  clear hA1
  go_wp2_with fail
  clear e5
  go_loopw [7] (fun i wr => ∃ k : Nat, k ≤ nS ∧ i = .int .i64 k ∧ Hd (∀ j (_ : j < S.length), j < k → schB S[j].rules q = false) ∧ Below w2.heap.size w2 wr) (fun i _ => nS - (intOf i).toNat)
  case atStart => exact ⟨0, Nat.zero_le _, rfl, ⟨fun j _ h => absurd h (Nat.not_lt_zero _)⟩, Below.refl _ _⟩
  case round =>
    obtain ⟨k, hk, rfl, hno, hbw⟩ := hrel
    have BB : Hd (Below w2.heap.size w2 wr) := ⟨hbw⟩
    by_cases hlt : k < nS
    · have hkS : k < S.length := by rw [← HN.out]; exact hlt
      obtain ⟨b, off, rfl, hb1⟩ := HU.out k hkS
      obtain ⟨-, -, hS3, -⟩ := HW.out wr hbw
      obtain ⟨a', c', e', -, hS3⟩ := hS3.at
      obtain ⟨b', off', ea, hbl, ar, nr, cr, ⟨k0, k1, k2, k3, k4⟩, -⟩ := hS3 k hkS
      have e2 : some (⟨b, off, none⟩ : Addr) = a' := by injection e'
      clear e'
      rw [ea] at e2
      injection e2 with e2
      injection e2 with eb eo
      subst eb eo
      clear ea hS3
      have hv4 : Hd (∀ W, Below wr.heap.size wr W → RlR W (.slice ar nr cr) S[k].rules) := ⟨fun W bb => by
        obtain ⟨-, -, h3, -⟩ := HW.out W (BB.out.trans (bb.mono BB.out.size))
        obtain ⟨a2, c2, e2, -, h3⟩ := h3.at
        obtain ⟨b2, o2, ea, -, ar2, nr2, cr2, ⟨-, -, -, -, m4⟩, hr⟩ := h3 k hkS
        have e3 : some (⟨b, off, none⟩ : Addr) = a2 := by injection e2
        rw [ea] at e3
        injection e3 with e3
        injection e3 with eb eo
        subst eb eo
        have := (bb.cell (p := ⟨b, off + k * 5 + 4, none⟩) hbl).trans k4
        rw [m4] at this
        injection this with this
        rw [← this]
        exact hr⟩
      have HI : Hd (k < nS) := ⟨hlt⟩
      have HX : Hd (schB S[k].rules q = true → findS S q = some S[k]) := ⟨fun hx => findS_at S q k hkS hx hno.out⟩
      have HY : Hd (schB S[k].rules q = false → ∀ j (_ : j < S.length), j < k + 1 → schB S[j].rules q = false) := ⟨fun hx j hj hjk => by
        rcases Nat.lt_or_eq_of_le (Nat.le_of_lt_succ hjk) with h1 | h1
        · exact hno.out j hj h1
        · subst h1; exact hx⟩
      have H0 := HM.out S[k] (List.getElem_mem hkS)
      have NB := NE.out.2 b hb1
      clear hno
      generalize S[k] = sk at *
      clear hkS
      obtain ⟨y0, y1, y2, y3, rs⟩ := sk
      simp only at *
      have HWq : Hd (∀ W, Below wr.heap.size wr W → Below w2.heap.size w2 W ∧ Blk W A2 25 #[.string q.user, .slice ag ng cg, .string q.verb, .string q.resource, .string q.space, .int .i64 q.objects] ∧ W.cell? ⟨b, off + k * 5, none⟩ = some (.string y0) ∧ W.cell? ⟨b, off + k * 5 + 1, none⟩ = some (.string y1) ∧ W.cell? ⟨b, off + k * 5 + 2, none⟩ = some (.int .i64 y2) ∧ W.cell? ⟨b, off + k * 5 + 3, none⟩ = some (.int .i64 y3) ∧ W.cell? ⟨b, off + k * 5 + 4, none⟩ = some (.slice ar nr cr)) := ⟨fun W bb => ⟨BB.out.trans (bb.mono BB.out.size), (HW.out W (BB.out.trans (bb.mono BB.out.size))).1, (bb.cell (p := ⟨b, off + k * 5, none⟩) hbl).trans k0, (bb.cell (p := ⟨b, off + k * 5 + 1, none⟩) hbl).trans k1, (bb.cell (p := ⟨b, off + k * 5 + 2, none⟩) hbl).trans k2, (bb.cell (p := ⟨b, off + k * 5 + 3, none⟩) hbl).trans k3, (bb.cell (p := ⟨b, off + k * 5 + 4, none⟩) hbl).trans k4⟩⟩
      have HC : Hd (∀ W, Below wr.heap.size wr W → Calls Try.prog 18 #[.agg #[.string y0, .string y1, .int .i64 y2, .int .i64 y3, .slice ar nr cr], .agg #[.string q.user, .slice ag ng cg, .string q.verb, .string q.resource, .string q.space, .int .i64 q.objects]] W fun e w' => e = .returned (.bool (schB rs q)) ∧ Below W.heap.size W w') := ⟨fun W bb => rschema_ok rs q W (hv4.out W bb) (HW.out W (BB.out.trans (bb.mono BB.out.size))).2.2.2⟩
      have HJ : Hd (∀ W, Calls Try.prog 14 #[.int .i64 y3, .agg #[.string q.user, .slice ag ng cg, .string q.verb, .string q.resource, .string q.space, .int .i64 q.objects]] W fun e w' => e = .returned (.string (keyB y3 q)) ∧ Below W.heap.size W w') := ⟨fun W => rkey_ok y3 q W⟩
      have HL : Hd (∀ W, Calls Try.prog 19 #[.string y0, .string (keyB y3 q)] W fun e w' => e = .returned (.int .u64 (Fn.flow y0 (keyB y3 q) : Nat)) ∧ Below W.heap.size W w') := ⟨fun W => Fn.rflow_ok y0 (keyB y3 q) (by omega) (by have := HK.out y3; omega) W⟩
      have HF : Hd (∀ W, Below wr.heap.size wr W → Blk W A3 34 clZ) := ⟨fun W bb => (HW.out W (BB.out.trans (bb.mono BB.out.size))).2.1⟩
      have HCR : Hd (∀ W, b < W.heap.size → W.cell? ⟨b, off + k * 5, none⟩ = some (.string y0) ∧ W.cell? ⟨b, off + k * 5 + 1, none⟩ = some (.string y1) ∧ W.cell? ⟨b, off + k * 5 + 2, none⟩ = some (.int .i64 y2) ∧ W.cell? ⟨b, off + k * 5 + 3, none⟩ = some (.int .i64 y3) ∧ W.cell? ⟨b, off + k * 5 + 4, none⟩ = some (.slice ar nr cr) → ∀ W', Below W.heap.size W W' → b < W'.heap.size ∧ W'.cell? ⟨b, off + k * 5, none⟩ = some (.string y0) ∧ W'.cell? ⟨b, off + k * 5 + 1, none⟩ = some (.string y1) ∧ W'.cell? ⟨b, off + k * 5 + 2, none⟩ = some (.int .i64 y2) ∧ W'.cell? ⟨b, off + k * 5 + 3, none⟩ = some (.int .i64 y3) ∧ W'.cell? ⟨b, off + k * 5 + 4, none⟩ = some (.slice ar nr cr)) := ⟨fun W hbl h W' bb => by
        obtain ⟨k0, k1, k2, k3, k4⟩ := h
        exact ⟨Nat.lt_of_lt_of_le hbl bb.size, (bb.cell (p := ⟨b, off + k * 5, none⟩) hbl).trans k0, (bb.cell (p := ⟨b, off + k * 5 + 1, none⟩) hbl).trans k1, (bb.cell (p := ⟨b, off + k * 5 + 2, none⟩) hbl).trans k2, (bb.cell (p := ⟨b, off + k * 5 + 3, none⟩) hbl).trans k3, (bb.cell (p := ⟨b, off + k * 5 + 4, none⟩) hbl).trans k4⟩⟩
      have hbl' : Hd (b < wr.heap.size) := ⟨hbl⟩
      clear k0 k1 k2 k3 k4 hbl hv4 H0 HM HU hb1
      generalize schB rs q = bk at *
      go_upto_region 5 with fail
      have DR : Below wr.heap.size wr wr.drew := ⟨rfl, rfl, rfl, Nat.le_refl _, fun _ _ => rfl⟩
      refine AnyG.start (T := fun W => Below wr.heap.size wr W) (U := fun _ => True) (j0 := 100) (by kernel_rfl) ?_
      have B0 : Below wr.heap.size wr wr.drew := DR
      clear DR
      generalize wr.drew = w0 at *
      refine .tq 0 18 B0 ?_; simp only [tkA, tkB, tkC]
      refine .tq 1 19 B0 ?_; simp only [tkA, tkB, tkC]
      refine .tq 2 20 B0 ?_ (hy := fun w hSw => by have h1 := HI.out; go_simp; rfl); simp only [tkA, tkB, tkC]
      refine .tq 3 21 B0 ?_ (hy := fun w hSw => by obtain ⟨s0, s1, s2, s3, s4⟩ := (HWq.out w hSw).2.2; go_simp; rfl); simp only [tkA, tkB, tkC]
      refine .tq 4 22 B0 ?_ (hy := fun w hSw => by have M := (HWq.out w hSw).2.1; have s0 := M.cellv (v := .string q.user) 0 rfl; have s1 := M.cellv (v := .slice ag ng cg) 1 rfl; have s2 := M.cellv (v := .string q.verb) 2 rfl; have s3 := M.cellv (v := .string q.resource) 3 rfl; have s4 := M.cellv (v := .string q.space) 4 rfl; have s5 := M.cellv (v := .int .i64 q.objects) 5 rfl; go_simp; rfl); simp only [tkA, tkB, tkC]
      refine AnyG.ready (rs := [5]) (by kernel_rfl) (by simp) ?_
      refine AllG.cons rfl (fun K hK => ?_) AllG.nil
      go_simp
      refine (HC.out w0 B0).mono ?_
      rintro e w4 ⟨rfl, b1⟩
      have B1 : Below wr.heap.size wr w4 := B0.trans (b1.mono B0.size)
      refine hK.out _ _ ⟨B1, fun _ => trivial⟩ ?_
      clear hK K b1 B0 HC
      refine AnyG.done (by kernel_rfl) ?_ _
      cases bk with
      | false =>
        have HY' : Hd (∀ j (_ : j < S.length), j < k + 1 → schB S[j].rules q = false) := ⟨HY.out rfl⟩
        go_wp2_with fail
        go_roundw
        case rel => exact ⟨k + 1, HI.out, by go_num, HY', BB.out.trans (B1.mono BB.out.size)⟩
        case measure => have := HI.out; simp [intOf]; omega
      | true =>
        have HX' : Hd (findS S q = some ⟨y0, y1, y2, y3, rs⟩) := ⟨HX.out rfl⟩
        clear HX HY
        go_upto_region 6 with fail
        have B2 : Below wr.heap.size wr w4.drew := B1.drew
        refine AnyG.start (T := fun W => Below wr.heap.size wr W) (U := fun _ => True) (j0 := 100) (by kernel_rfl) ?_
        clear B1
        generalize w4.drew = w0 at *
        refine .tq 0 24 B2 ?_; simp only [tkA, tkB, tkC]
        refine .tq 1 25 B2 ?_; simp only [tkA, tkB, tkC]
        refine .tq 2 26 B2 ?_ (hy := fun w hSw => by have h1 := HI.out; go_simp; rfl); simp only [tkA, tkB, tkC]
        refine .tq 3 27 B2 ?_; simp only [tkA, tkB, tkC]
        refine .tq 4 28 B2 ?_ (hy := fun w hSw => by obtain ⟨s0, s1, s2, s3, s4⟩ := (HWq.out w hSw).2.2; go_simp; rfl); simp only [tkA, tkB, tkC]
        refine .tq 5 29 B2 ?_ (hy := fun w hSw => by have M := (HWq.out w hSw).2.1; have s0 := M.cellv (v := .string q.user) 0 rfl; have s1 := M.cellv (v := .slice ag ng cg) 1 rfl; have s2 := M.cellv (v := .string q.verb) 2 rfl; have s3 := M.cellv (v := .string q.resource) 3 rfl; have s4 := M.cellv (v := .string q.space) 4 rfl; have s5 := M.cellv (v := .int .i64 q.objects) 5 rfl; go_simp; rfl); simp only [tkA, tkB, tkC]
        refine AnyG.ready (rs := [6]) (by kernel_rfl) (by simp) ?_
        refine AllG.cons rfl (fun K hK => ?_) AllG.nil
        go_simp
        refine (HJ.out w0).mono ?_
        rintro e w5 ⟨rfl, b1⟩
        have B3 : Below wr.heap.size wr w5 := B2.trans (b1.mono B2.size)
        refine hK.out _ _ ⟨B3, fun _ => trivial⟩ ?_
        clear hK K b1 B2 HJ
        refine .tq 7 8 B3 ?_; simp only [tkA, tkB, tkC]
        refine AnyG.done (by kernel_rfl) ?_ _
        go_upto_region 7 with fail
        have B4 : Below wr.heap.size wr w5.drew := B3.drew
        refine AnyG.start (T := fun W => b < W.heap.size ∧ W.cell? ⟨b, off + k * 5, none⟩ = some (.string y0) ∧ W.cell? ⟨b, off + k * 5 + 1, none⟩ = some (.string y1) ∧ W.cell? ⟨b, off + k * 5 + 2, none⟩ = some (.int .i64 y2) ∧ W.cell? ⟨b, off + k * 5 + 3, none⟩ = some (.int .i64 y3) ∧ W.cell? ⟨b, off + k * 5 + 4, none⟩ = some (.slice ar nr cr)) (U := fun _ => True) (j0 := 100) (by kernel_rfl) ?_
        clear B3
        generalize w5.drew = w0 at *
        have T0 : b < w0.heap.size ∧ w0.cell? ⟨b, off + k * 5, none⟩ = some (.string y0) ∧ w0.cell? ⟨b, off + k * 5 + 1, none⟩ = some (.string y1) ∧ w0.cell? ⟨b, off + k * 5 + 2, none⟩ = some (.int .i64 y2) ∧ w0.cell? ⟨b, off + k * 5 + 3, none⟩ = some (.int .i64 y3) ∧ w0.cell? ⟨b, off + k * 5 + 4, none⟩ = some (.slice ar nr cr) := ⟨Nat.lt_of_lt_of_le hbl'.out B4.size, (HWq.out w0 B4).2.2⟩
        have M3 := HF.out w0 B4
        have B5 : Below A1 w w0 := HB.out.trans ((BB.out.trans (B4.mono BB.out.size)).mono (by have := HB.out.size; have := HA.out; omega))
        have LA : A1 ≤ w0.heap.size := by have := M3.lt; have := LE.out; omega
        clear B4 HWq HF HW
        have HE : Hd (clA ⟨y0, y1, y2, y3, rs⟩ q = clC y0 y1 (keyB y3 q) (Fn.flow y0 (keyB y3 q))) := ⟨rfl⟩
        generalize Fn.flow y0 (keyB y3 q) = f at *
        generalize keyB y3 q = kx at *
        refine .tq 0 31 T0 ?_; simp only [tkA, tkB, tkC]
        refine .tq 1 32 T0 ?_; simp only [tkA, tkB, tkC]
        refine .tq 2 33 T0 ?_ (hy := fun w hSw => by have h1 := HI.out; go_simp; rfl); simp only [tkA, tkB, tkC]
        refine .tq 3 34 T0 ?_; simp only [tkA, tkB, tkC]
        refine .tq 4 35 T0 ?_ (hy := fun w hSw => by obtain ⟨-, s0, s1, s2, s3, s4⟩ := hSw; go_simp; rfl); simp only [tkA, tkB, tkC]
        refine .tq 5 36 T0 ?_; simp only [tkA, tkB, tkC]
        refine .tq 6 37 T0 ?_; simp only [tkA, tkB, tkC]
        refine .tq 7 38 T0 ?_ (hy := fun w hSw => by have h1 := HI.out; go_simp; rfl); simp only [tkA, tkB, tkC]
        refine .tq 8 39 T0 ?_; simp only [tkA, tkB, tkC]
        refine .tq 9 40 T0 ?_ (hy := fun w hSw => by obtain ⟨-, s0, s1, s2, s3, s4⟩ := hSw; go_simp; rfl); simp only [tkA, tkB, tkC]
        refine .tq 10 41 T0 ?_; simp only [tkA, tkB, tkC]
        refine .tq 11 42 T0 ?_; simp only [tkA, tkB, tkC]
        refine .tq 12 43 T0 ?_; simp only [tkA, tkB, tkC]
        refine .tq 13 44 T0 ?_ (hy := fun w hSw => by have h1 := HI.out; go_simp; rfl); simp only [tkA, tkB, tkC]
        refine .tq 14 45 T0 ?_; simp only [tkA, tkB, tkC]
        refine .tq 15 46 T0 ?_ (hy := fun w hSw => by obtain ⟨-, s0, s1, s2, s3, s4⟩ := hSw; go_simp; rfl); simp only [tkA, tkB, tkC]
        refine .tq 16 47 T0 ?_; simp only [tkA, tkB, tkC]
        refine AnyG.ready (rs := [17]) (by kernel_rfl) (by simp) ?_
        refine AllG.cons rfl (fun K hK => ?_) AllG.nil
        go_simp
        refine (HL.out w0).mono ?_
        rintro e wk ⟨rfl, bk⟩
        have T1 := HCR.out w0 T0.1 T0.2 wk bk
        have M3' := M3.kept (Kept.of_below bk (fun _ => False)) id
        have B6 : Below A1 w wk := B5.trans (bk.mono LA)
        have LA' : A1 ≤ wk.heap.size := Nat.le_trans LA bk.size
        refine hK.out _ _ ⟨T1, fun _ => trivial⟩ ?_
        clear hK K HL T0 M3 B5 bk LA
        refine AnyG.ready (rs := [18]) (by kernel_rfl) (by simp) ?_
        refine AllG.cons rfl (fun K hK => ?_) AllG.nil
        go_simp
        refine hK.out _ _ ⟨T1, fun _ => trivial⟩ ?_
        clear hK K
        obtain ⟨⟨r0, r1, r2, r3⟩, f0, f1, f2, f3⟩ := M3'.four
        obtain ⟨q1, q2⟩ := four_set (a' := y0) (b' := y1) (c' := kx) (d' := f) M3'
        have T2 : b < ((((wk.setCell ⟨A3, 0, none⟩ (.string y0)).setCell ⟨A3, 1, none⟩ (.string y1)).setCell ⟨A3, 2, none⟩ (.string kx)).setCell ⟨A3, 3, none⟩ (.int .u64 f)).heap.size ∧ ((((wk.setCell ⟨A3, 0, none⟩ (.string y0)).setCell ⟨A3, 1, none⟩ (.string y1)).setCell ⟨A3, 2, none⟩ (.string kx)).setCell ⟨A3, 3, none⟩ (.int .u64 f)).cell? ⟨b, off + k * 5, none⟩ = some (.string y0) ∧ ((((wk.setCell ⟨A3, 0, none⟩ (.string y0)).setCell ⟨A3, 1, none⟩ (.string y1)).setCell ⟨A3, 2, none⟩ (.string kx)).setCell ⟨A3, 3, none⟩ (.int .u64 f)).cell? ⟨b, off + k * 5 + 1, none⟩ = some (.string y1) ∧ ((((wk.setCell ⟨A3, 0, none⟩ (.string y0)).setCell ⟨A3, 1, none⟩ (.string y1)).setCell ⟨A3, 2, none⟩ (.string kx)).setCell ⟨A3, 3, none⟩ (.int .u64 f)).cell? ⟨b, off + k * 5 + 2, none⟩ = some (.int .i64 y2) ∧ ((((wk.setCell ⟨A3, 0, none⟩ (.string y0)).setCell ⟨A3, 1, none⟩ (.string y1)).setCell ⟨A3, 2, none⟩ (.string kx)).setCell ⟨A3, 3, none⟩ (.int .u64 f)).cell? ⟨b, off + k * 5 + 3, none⟩ = some (.int .i64 y3) ∧ ((((wk.setCell ⟨A3, 0, none⟩ (.string y0)).setCell ⟨A3, 1, none⟩ (.string y1)).setCell ⟨A3, 2, none⟩ (.string kx)).setCell ⟨A3, 3, none⟩ (.int .u64 f)).cell? ⟨b, off + k * 5 + 4, none⟩ = some (.slice ar nr cr) := by
          obtain ⟨h3, h4, h5, h6, h7, h8⟩ := T1
          exact ⟨Nat.lt_of_lt_of_le h3 q2.size, (q2.cell h3 NB).trans h4, (q2.cell h3 NB).trans h5, (q2.cell h3 NB).trans h6, (q2.cell h3 NB).trans h7, (q2.cell h3 NB).trans h8⟩
        refine AnyG.ready (rs := [19]) (by kernel_rfl) (by simp) ?_
        refine AllG.cons rfl (fun K hK => ?_) AllG.nil
        go_simp
        refine hK.out _ _ ⟨T2, fun _ => trivial⟩ ?_
        clear hK K r0 r1 r2 r3 f0 f1 f2 f3
        refine .tq 20 5 T2 ?_; simp only [tkA, tkB, tkC]
        refine AnyG.done (by kernel_rfl) ?_ _
        go_wp2_with fail
        refine bodyPost_ret (resRcl _ _ _ _ rfl rfl q1) rfl ?_
        exact ⟨by rw [HX'.out]; show Ending.returned (.tuple #[.agg (clC y0 y1 kx f), _]) = .returned (.tuple #[.agg (clA _ q), .int .i64 0]); rw [HE.out]; rfl, by rw [← HA.out]; exact B6.trans (q2.below LA' (fun k e => by rw [e]; exact LE.out))⟩
    · obtain rfl : k = nS := by omega
      have HF : Hd (findS S q = none) := ⟨findS_none S q fun j hj => hno.out j hj (by have := HN.out; omega)⟩
      obtain ⟨-, N3, -, -⟩ := HW.out wr hbw
      obtain ⟨⟨r0, r1, r2, r3⟩, f0, f1, f2, f3⟩ := N3.four
      obtain ⟨q1, q2⟩ := four_set (a' := ⟨#[]⟩) (b' := ⟨#[]⟩) (c' := ⟨#[]⟩) (d' := 0) N3
      have B6 : Below A1 w wr := HB.out.trans (hbw.mono (by have := HB.out.size; have := HA.out; omega))
      have LA' : A1 ≤ wr.heap.size := by have := N3.lt; have := LE.out; omega
      clear hno hbw hlt
      go_wp2_with fail
      refine bodyPost_ret (resRcl _ _ _ _ rfl rfl q1) rfl ?_
      exact ⟨by rw [HF.out]; rfl, by rw [← HA.out]; exact B6.trans (q2.below LA' (fun k e => by rw [e]; exact LE.out))⟩
end Go.Proofs.Ytijjpblmnlednaa
