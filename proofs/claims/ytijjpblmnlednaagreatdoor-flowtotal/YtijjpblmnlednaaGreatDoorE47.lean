/-
  The class of a request: 'Classify' of flow.
-/
import Derived.Test.YtijjpblmnlednaaGreatDoorE46
namespace Go.Proofs.YtijjpblmnlednaaGreatDoor
open Go.RowKit
theorem Kept.cell {S : Nat → Prop} {w w' : World} (h : Kept S w w') {b i : Nat} (hb : b < w.heap.size) (hS : ¬ S b) : w'.cell? ⟨b, i, none⟩ = w.cell? ⟨b, i, none⟩ := by
  have := h.block b hb hS
  simp [World.cell?, this]
theorem resClf (tmps : Array Value) (w : World) (g : Nat) {a b c : ByteArray} {d : Nat} (q : Value) (ht : tmps[4]?.getD undef = .pointer (some ⟨g, 0, none⟩)) (hq : tmps[5]?.getD undef = q) (h : Blk w g 40 (clC a b c d)) :
    (results Tryz.f8 tmps).run Tryz.prog w = .ok (.tuple #[.agg (clC a b c d), q]) w := by
  obtain ⟨⟨c0, c1, c2, c3⟩, -⟩ := h.four
  simp [results, Tryz.results8, go_sem, ht, hq, c0, c1, c2, c3, clC]

set_option maxRecDepth 20000 in
set_option maxHeartbeats 4000000 in
theorem classify_ok {ag aL aS : Option Addr} {ng cg nL cL nS cS d : Nat} {z0 z1 z2 z3 : Int} (S : List Sc) (q : Rq) (w : World) (hv : SsR w (.slice aS nS cS) S) (hq : LsR w (.slice ag ng cg) q.groups) (hu : q.user.size ≤ 9223372036854775807) (hs : q.space.size ≤ 9223372036854775807) :
    Calls Tryz.prog 8 #[.agg #[.int .i64 z0, .int .i64 z1, .int .i64 z2, .int .i64 z3, .slice aL nL cL, .slice aS nS cS, .int .u64 d], .agg #[.string q.user, .slice ag ng cg, .string q.verb, .string q.resource, .string q.space, .int .i64 q.objects]] w fun e w' => e = .returned (.tuple #[.agg (clOf (findS S q) q), .int .i64 (erOf (findS S q))]) ∧ Below w.heap.size w w' := by
  obtain ⟨w2, hw2⟩ : ∃ w2, w2 = ((w.alloc (.cells #[.int .i64 z0, .int .i64 z1, .int .i64 z2, .int .i64 z3, .slice aL nL cL, .slice aS nS cS, .int .u64 d] 34)).alloc (.cells #[.string q.user, .slice ag ng cg, .string q.verb, .string q.resource, .string q.space, .int .i64 q.objects] 28)).alloc (.cells #[.string ⟨#[]⟩, .string ⟨#[]⟩, .string ⟨#[]⟩, .int .u64 0] 40) := ⟨_, rfl⟩
  have BX := boxes3 w 34 28 40 #[.int .i64 z0, .int .i64 z1, .int .i64 z2, .int .i64 z3, .slice aL nL cL, .slice aS nS cS, .int .u64 d] #[.string q.user, .slice ag ng cg, .string q.verb, .string q.resource, .string q.space, .int .i64 q.objects] #[.string ⟨#[]⟩, .string ⟨#[]⟩, .string ⟨#[]⟩, .int .u64 0]
  rw [← hw2] at BX
  obtain ⟨B, N1, N2, N3⟩ := BX
  have I := indexS_ok _ S q (w.heap.size + 1) w2 (hv.carry B) N2 (hq.carry B)
  obtain ⟨aS', cS', eS, hl, -⟩ := hv.at
  have hnS : nS = S.length := by injection eS
  have HN : Hd (nS = S.length) := ⟨hnS⟩
  have HW : Hd (∀ W, Below w2.heap.size w2 W → Blk W w.heap.size 34 #[.int .i64 z0, .int .i64 z1, .int .i64 z2, .int .i64 z3, .slice aL nL cL, .slice aS nS cS, .int .u64 d] ∧ Blk W (w.heap.size + 1) 28 #[.string q.user, .slice ag ng cg, .string q.verb, .string q.resource, .string q.space, .int .i64 q.objects] ∧ Blk W (w.heap.size + 1 + 1) 40 clZ ∧ SsR W (.slice aS nS cS) S) := ⟨fun W b => ⟨N1.kept (Kept.of_below b (fun _ => False)) id, N2.kept (Kept.of_below b (fun _ => False)) id, N3.kept (Kept.of_below b (fun _ => False)) id, (hv.carry B).carry b⟩⟩
  have HB : Hd (Below w.heap.size w w2) := ⟨B⟩
  have HU : Hd (∀ k, k < S.length → ∃ b off, aS = some ⟨b, off, none⟩ ∧ b < w.heap.size) := ⟨fun k hk => by
    obtain ⟨a, c, e, -, h⟩ := hv.at
    obtain ⟨b, off, rfl, hb, -⟩ := h k hk
    exact ⟨b, off, by injection e, hb⟩⟩
  have HC : Hd (∀ W, ∀ s : Sc, s.name.size ≤ 9223372036854775807 → ∀ ar nr cr, Calls Tryz.prog 22 #[.agg #[.string s.name, .string s.level, .int .i64 s.rank, .int .i64 s.way, .slice ar nr cr], .agg #[.string q.user, .slice ag ng cg, .string q.verb, .string q.resource, .string q.space, .int .i64 q.objects]] W fun e w' => e = .returned (.agg (clA s q)) ∧ Below W.heap.size W w') := ⟨fun W s h0 ar nr cr => cls_ok q W h0 hu hs⟩
  have HM : Hd (∀ s ∈ S, s.name.size ≤ 9223372036854775807) := ⟨fun s h => (hv.nm s h).1⟩
  have e5 := N1.cellv (v := .slice aS nS cS) 5 rfl
  rw [← hnS] at hl
  clear N1 N2 N3 B hv hq hu hs eS hnS
  have NE : Hd (w.heap.size ≠ w.heap.size + 1 + 1 ∧ w.heap.size + 1 ≠ w.heap.size + 1 + 1 ∧ ∀ b, b < w.heap.size → b ≠ w.heap.size + 1 + 1) := ⟨by omega, by omega, fun b h => by omega⟩
  go_enter Tryz.func8, Tryz.ntmps8
  go_upto_region 1 with fail
  rw [← hw2]
  clear hw2
  go_upto_region 2 with (go_at_call 19; refine I.mono ?_; rintro e w3 ⟨⟨z, rfl, hz⟩, b3⟩)
  obtain ⟨N1, N2, N3, hS3⟩ := HW.out w3 b3
  have B3 : Hd (Below w.heap.size w w3) := ⟨HB.out.trans (b3.mono HB.out.size)⟩
  have LE : Hd (w.heap.size ≤ w.heap.size + 1 + 1) := ⟨by omega⟩
  clear e5 I HW b3 HB
  generalize w.heap.size + 1 + 1 = A3 at *
  generalize w.heap.size + 1 = A2 at *
  obtain ⟨A1, hA1⟩ : ∃ A1, A1 = w.heap.size := ⟨_, rfl⟩
  have HA : Hd (A1 = w.heap.size) := ⟨hA1⟩
  rw [← hA1] at N1 B3 LE NE HU ⊢
  clear hA1
  rcases hz with ⟨rfl, hf⟩ | ⟨k, hk, rfl, hf⟩
  · obtain ⟨⟨r0, r1, r2, r3⟩, f0, f1, f2, f3⟩ := N3.four
    obtain ⟨q1, q2⟩ := four_set (a' := ⟨#[]⟩) (b' := ⟨#[]⟩) (c' := ⟨#[]⟩) (d' := 0) N3
    have HF : Hd (findS S q = none) := ⟨hf⟩
    clear hf
    go_wp2_with fail
    refine bodyPost_ret (resClf _ _ _ _ rfl rfl q1) rfl ?_
    exact ⟨by rw [HF.out]; rfl, by rw [← HA.out]; exact B3.out.trans (q2.below (Nat.le_of_lt N1.lt) (fun k e => by rw [e]; exact LE.out))⟩
  · obtain ⟨b, off, rfl, hb1⟩ := HU.out k hk
    obtain ⟨a', c', e', -, hS3⟩ := hS3.at
    obtain ⟨b', off', ea, hb, ar, nr, cr, ⟨k0, k1, k2, k3, k4⟩, -⟩ := hS3 k hk
    have e2 : some (⟨b, off, none⟩ : Addr) = a' := by injection e'
    clear e'
    rw [ea] at e2
    injection e2 with e2
    injection e2 with eb eo
    subst eb eo
    clear ea
    have HF : Hd (findS S q = some S[k]) := ⟨hf⟩
    have hlt : k < nS := by rw [HN.out]; exact hk
    have C0 := HC.out
    have sM := HM.out S[k] (List.getElem_mem hk)
    have NB := NE.out.2.2 b hb1
    clear hS3 HC HM hf HU HN
    generalize S[k] = s at *
    clear hk
    go_upto_region 4 with fail
    have M1 : Blk w3.drew A1 34 #[.int .i64 z0, .int .i64 z1, .int .i64 z2, .int .i64 z3, .slice aL nL cL, .slice (some ⟨b, off, none⟩) nS cS, .int .u64 d] := N1
    have M2 : Blk w3.drew A2 28 #[.string q.user, .slice ag ng cg, .string q.verb, .string q.resource, .string q.space, .int .i64 q.objects] := N2
    have M3 : Blk w3.drew A3 40 clZ := N3
    have hb' : b < w3.drew.heap.size := hb
    have BD : Below A1 w w3.drew := B3.out.drew
    have CS : w3.drew.cell? ⟨b, off + k * 5, none⟩ = some (.string s.name) ∧ w3.drew.cell? ⟨b, off + k * 5 + 1, none⟩ = some (.string s.level) ∧ w3.drew.cell? ⟨b, off + k * 5 + 2, none⟩ = some (.int .i64 s.rank) ∧ w3.drew.cell? ⟨b, off + k * 5 + 3, none⟩ = some (.int .i64 s.way) ∧ w3.drew.cell? ⟨b, off + k * 5 + 4, none⟩ = some (.slice ar nr cr) := ⟨k0, k1, k2, k3, k4⟩
    clear N1 N2 N3 B3 k0 k1 k2 k3 k4 hb
    obtain ⟨TT, hTT⟩ : ∃ TT : World → Prop, TT = fun W => Blk W A1 34 #[.int .i64 z0, .int .i64 z1, .int .i64 z2, .int .i64 z3, .slice aL nL cL, .slice (some ⟨b, off, none⟩) nS cS, .int .u64 d] ∧ Blk W A2 28 #[.string q.user, .slice ag ng cg, .string q.verb, .string q.resource, .string q.space, .int .i64 q.objects] ∧ b < W.heap.size ∧ W.cell? ⟨b, off + k * 5, none⟩ = some (.string s.name) ∧ W.cell? ⟨b, off + k * 5 + 1, none⟩ = some (.string s.level) ∧ W.cell? ⟨b, off + k * 5 + 2, none⟩ = some (.int .i64 s.rank) ∧ W.cell? ⟨b, off + k * 5 + 3, none⟩ = some (.int .i64 s.way) ∧ W.cell? ⟨b, off + k * 5 + 4, none⟩ = some (.slice ar nr cr) := ⟨_, rfl⟩
    have T0 : TT w3.drew := by rw [hTT]; exact ⟨M1, M2, hb', CS⟩
    have HT : Hd (∀ W, TT W → Blk W A1 34 #[.int .i64 z0, .int .i64 z1, .int .i64 z2, .int .i64 z3, .slice aL nL cL, .slice (some ⟨b, off, none⟩) nS cS, .int .u64 d] ∧ Blk W A2 28 #[.string q.user, .slice ag ng cg, .string q.verb, .string q.resource, .string q.space, .int .i64 q.objects] ∧ b < W.heap.size ∧ W.cell? ⟨b, off + k * 5, none⟩ = some (.string s.name) ∧ W.cell? ⟨b, off + k * 5 + 1, none⟩ = some (.string s.level) ∧ W.cell? ⟨b, off + k * 5 + 2, none⟩ = some (.int .i64 s.rank) ∧ W.cell? ⟨b, off + k * 5 + 3, none⟩ = some (.int .i64 s.way) ∧ W.cell? ⟨b, off + k * 5 + 4, none⟩ = some (.slice ar nr cr)) := ⟨fun W h => by rw [hTT] at h; exact h⟩
    have HT2 : Hd (∀ W W', TT W → Below W.heap.size W W' → TT W') := ⟨fun W W' h bl => by
      rw [hTT] at h ⊢
      obtain ⟨h1, h2, h3, h4, h5, h6, h7, h8⟩ := h
      exact ⟨h1.kept (Kept.of_below bl (fun _ => False)) id, h2.kept (Kept.of_below bl (fun _ => False)) id, Nat.lt_of_lt_of_le h3 bl.size, (bl.cell (p := ⟨b, off + k * 5, none⟩) h3).trans h4, (bl.cell (p := ⟨b, off + k * 5 + 1, none⟩) h3).trans h5, (bl.cell (p := ⟨b, off + k * 5 + 2, none⟩) h3).trans h6, (bl.cell (p := ⟨b, off + k * 5 + 3, none⟩) h3).trans h7, (bl.cell (p := ⟨b, off + k * 5 + 4, none⟩) h3).trans h8⟩⟩
    have HT3 : Hd (∀ W W', TT W → Kept (fun k => k = A3) W W' → TT W') := ⟨fun W W' h kp => by
      rw [hTT] at h ⊢
      obtain ⟨h1, h2, h3, h4, h5, h6, h7, h8⟩ := h
      exact ⟨h1.kept kp NE.out.1, h2.kept kp NE.out.2.1, Nat.lt_of_lt_of_le h3 kp.size, (kp.cell h3 NB).trans h4, (kp.cell h3 NB).trans h5, (kp.cell h3 NB).trans h6, (kp.cell h3 NB).trans h7, (kp.cell h3 NB).trans h8⟩⟩
    clear hTT CS M1 M2 hb'
    refine AnyG.start (T := TT) (U := fun _ => True) (j0 := 100) (by kernel_rfl) ?_
    generalize w3.drew = w0 at *
    refine .tq 0 15 T0 ?_; simp only [tkA, tkB, tkC]
    refine .tq 1 16 T0 ?_; simp only [tkA, tkB, tkC]
    refine .tq 2 17 T0 ?_ (hy := fun w hSw => by have s5 := (HT.out w hSw).1.cellv (v := .slice (some ⟨b, off, none⟩) nS cS) 5 rfl; go_simp; rfl); simp only [tkA, tkB, tkC]
    refine .tq 3 18 T0 ?_; simp only [tkA, tkB, tkC]
    refine .tq 4 19 T0 ?_ (hy := fun w hSw => by have h1 := hlt; go_simp; rfl); simp only [tkA, tkB, tkC]
    refine .tq 5 20 T0 ?_ (hy := fun w hSw => by obtain ⟨-, -, -, s0, s1, s2, s3, s4⟩ := HT.out w hSw; go_simp; rfl); simp only [tkA, tkB, tkC]
    refine .tq 6 21 T0 ?_ (hy := fun w hSw => by have M := (HT.out w hSw).2.1; have s0 := M.cellv (v := .string q.user) 0 rfl; have s1 := M.cellv (v := .slice ag ng cg) 1 rfl; have s2 := M.cellv (v := .string q.verb) 2 rfl; have s3 := M.cellv (v := .string q.resource) 3 rfl; have s4 := M.cellv (v := .string q.space) 4 rfl; have s5 := M.cellv (v := .int .i64 q.objects) 5 rfl; go_simp; rfl); simp only [tkA, tkB, tkC]
    refine AnyG.ready (rs := [7]) (by kernel_rfl) (by simp) ?_
    refine AllG.cons rfl (fun K hK => ?_) AllG.nil
    go_simp
    refine (C0 w0 s sM ar nr cr).mono ?_
    rintro e wk ⟨rfl, bk⟩
    have T1 := HT2.out _ _ T0 bk
    have M3' := M3.kept (Kept.of_below bk (fun _ => False)) id
    have B4 : Below A1 w wk := BD.trans (bk.mono (Nat.le_of_lt (HT.out _ T0).1.lt))
    refine hK.out _ _ ⟨T1, fun _ => trivial⟩ ?_
    clear hK K C0 T0 M3 BD bk
    unfold clA
    obtain ⟨⟨r0, r1, r2, r3⟩, f0, f1, f2, f3⟩ := M3'.four
    obtain ⟨q1, q2⟩ := four_set (a' := s.name) (b' := s.level) (c' := keyB s.way q) (d' := Fn.flow s.name (keyB s.way q)) M3'
    have T2 := HT3.out _ _ T1 q2
    unfold clC
    refine AnyG.ready (rs := [8]) (by kernel_rfl) (by simp) ?_
    refine AllG.cons rfl (fun K hK => ?_) AllG.nil
    go_simp
    refine hK.out _ _ ⟨T2, fun _ => trivial⟩ ?_
    clear hK K r0 r1 r2 r3 f0 f1 f2 f3
    refine .tq 9 5 T2 ?_; simp only [tkA, tkB, tkC]
    refine AnyG.done (by kernel_rfl) ?_ _
    go_wp2_with fail
    refine bodyPost_ret (resClf _ _ _ _ rfl rfl q1) rfl ?_
    exact ⟨by rw [HF.out]; rfl, by rw [← HA.out]; exact B4.trans (q2.below (Nat.le_of_lt (HT.out _ T1).1.lt) (fun k e => by rw [e]; exact LE.out))⟩
end Go.Proofs.YtijjpblmnlednaaGreatDoor
