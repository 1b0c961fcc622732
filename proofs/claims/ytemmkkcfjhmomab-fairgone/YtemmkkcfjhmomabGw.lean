/-
  Whoever is dropped is not taken any more, and all others are: the walk. Conditions: the lanes lie in memory.
-/
import Derived.Test.YtemmkkcfjhmomabDm
import Derived.Test.YtemmkkcfjhmomabSl
import Derived.Test.YtemmkkcfjhmomabAw
namespace Go.Proofs.Ytemmkkcfjhmomab
open Go.RowKit

theorem StR.step {S T : Nat → Prop} {w w2 : World} {a : Option Addr} {c : Nat} {F : List Ln} (h : StR S w a c F) (k : Kept S w w2) (e : ∀ j, j < w.heap.size → T j → S j) : StR T w2 a c F := by
  obtain ⟨h1, h2, Z, h3, h4⟩ := h
  exact ⟨h1, h2, Z, h3, fun W kk => h4 W (k.then kk e)⟩
theorem mem_gl {F : List Ln} {l : Ln} (h : l ∈ F) : ∃ k, k < F.length ∧ l = gl F k := by
  obtain ⟨k, hk, e⟩ := List.mem_iff_getElem.1 h
  refine ⟨k, hk, ?_⟩
  have := gl_get hk
  rw [List.getElem?_eq_getElem hk, e] at this
  injection this
/-- A fair in a box that is written anew. -/
structure FB (w W : World) (A : Nat) (x : Fa) : Prop where
  bel : Below w.heap.size w W
  lA : w.heap.size ≤ A
  box : ∃ a c, Blk W A 25 (faA x.r x.g x.n x.o (.slice a x.F.length c)) ∧ StR (fun j => j = A) W a c x.F
theorem FB.lt {w W : World} {A : Nat} {x : Fa} (h : FB w W A x) : A < W.heap.size := by
  obtain ⟨a, c, k, -⟩ := h.box
  exact k.lt
theorem FB.carry {w W W' : World} {A : Nat} {x : Fa} (h : FB w W A x) (b : Below W.heap.size W W') : FB w W' A x := by
  obtain ⟨a, c, k1, k2⟩ := h.box
  exact ⟨h.bel.trans (b.mono h.bel.size), h.lA, a, c, k1.kept (Kept.of_below b (fun _ => False)) id, k2.step (Kept.of_below b _) (fun _ _ e => e)⟩
theorem FB.put {w W W' : World} {A : Nat} {x y : Fa} (h : FB w W A x) {a : Option Addr} {c : Nat} (k : Kept (fun j => j = A) W W') (hb : Blk W' A 25 (faA y.r y.g y.n y.o (.slice a y.F.length c))) (hy : StR (fun j => j = A) W a c y.F) : FB w W' A y := by
  have lA := h.lA
  exact ⟨h.bel.trans (k.below h.bel.size (fun j e => by omega)), h.lA, a, c, hb, hy.step k (fun _ _ e => e)⟩
/-- What holds of lanes that are emptied. -/
structure DrG (x : Fa) (n k : Nat) : Prop where
  few : Few x.F
  wt : wtA x.F = (n : Int) - (k : Int)
theorem DrG.next {x : Fa} {n k : Nat} (h : DrG x n k) (hk : k < n) : ∃ p : Nat, nxt x.F x.g = p ∧ p < x.F.length ∧ (gl x.F p).L ≠ [] ∧ DrG (tkX x) n (k + 1) := by
  obtain ⟨p, e, hp, hne⟩ := nxt_some (F := x.F) (g := x.g) (by have := h.wt; omega)
  obtain ⟨-, -, -, -, -, h6, -⟩ := tk_less e hp hne
  exact ⟨p, e, hp, hne, tkX_few h.few, by rw [h6, h.wt]; omega⟩
theorem dp_less {x : Fa} {i : Int} (hk : dpK x.F i < x.F.length) : (dpT x i).id = i ∧ dpO x i = true ∧ wtA (dpX x i).F = wtA x.F - 1 := by
  have hb := dpK_yes hk
  unfold drB at hb
  have hf : fnd i (gl x.F (dpK x.F i)).L < (gl x.F (dpK x.F i)).L.length := of_decide_eq_true hb
  refine ⟨?_, decide_eq_true hk, ?_⟩
  · unfold dpT
    rw [if_pos hk]
    exact fnd_is i _ hf
  · unfold dpX
    rw [if_pos hk]
    show wtA (trm _ x.o) = _
    rw [wt_trm]
    unfold wtA
    rw [List.length_set, wt_set hk, if_pos hk]
    show _ + (((drL i (gl x.F (dpK x.F i)).L).length : Int) - _) = _
    have : (drL i (gl x.F (dpK x.F i)).L).length + 1 = (gl x.F (dpK x.F i)).L.length := by
      unfold drL
      rw [List.length_append, List.length_take, List.length_drop]
      omega
    omega
theorem dp_no {x : Fa} {i : Int} (hk : ¬ dpK x.F i < x.F.length) : dpX x i = x ∧ dpO x i = false := ⟨if_neg hk, decide_eq_false hk⟩

set_option maxRecDepth 20000 in
set_option maxHeartbeats 4000000 in
theorem gone_law (x : Fa) (a : Option Addr) (c : Nat) (id' : Int) (w : World) (h : LsR w a c x.F) (hw : ∀ l ∈ x.F, Word l.s) (hc : x.F.length ≤ 9223372036854775807) (ht : ∀ k, k < x.F.length → (gl x.F k).L.length ≤ 9223372036854775807) :
    Calls Try.prog 3 #[.agg #[.int .u64 x.r, .int .i64 x.g, .int .i64 x.n, .int .i64 x.o, .slice a x.F.length c], .int .i64 id'] w fun e w' => e = .returned (.bool true) ∧ Below w.heap.size w w' := by
  obtain ⟨w1, hw1⟩ : ∃ w1, w1 = w.alloc (.cells #[.int .u64 x.r, .int .i64 x.g, .int .i64 x.n, .int .i64 x.o, .slice a x.F.length c] 25) := ⟨_, rfl⟩
  have B : Below w.heap.size w w1 := by rw [hw1]; exact alloc_below _ _
  have N1 : Blk w1 w.heap.size 25 (faA x.r x.g x.n x.o (.slice a x.F.length c)) := by rw [hw1]; exact Blk.new _ _ _
  have HW : Hd (∀ l ∈ x.F, Word l.s) := ⟨hw⟩
  have HSM : Hd (∀ W, LsR W a c x.F → Calls Try.prog 5 #[.agg #[.int .u64 x.r, .int .i64 x.g, .int .i64 x.n, .int .i64 x.o, .slice a x.F.length c]] W fun e w' => AnsB x.F e ∧ Below W.heap.size W w') := ⟨fun W q => smallF_ok x.r x.g x.n x.o a c x.F W q hc ht⟩
  have H : Hd (Below w.heap.size w w1 ∧ Blk w1 w.heap.size 25 (faA x.r x.g x.n x.o (.slice a x.F.length c)) ∧ LsR w1 a c x.F) := ⟨B, N1, h.carry B⟩
  clear B N1 h ht hw
  go_enter Try.func3, Try.ntmps3
  go_upto_region 1 with fail
  rw [← hw1]
  clear hw1
  obtain ⟨F0, hF0⟩ : ∃ F0, F0 = w.heap.size := ⟨_, rfl⟩
  have HF0 : Hd (F0 = w.heap.size) := ⟨hF0⟩
  rw [← hF0] at H ⊢
  clear hF0
  go_wp2_with fail
  go_at_call 4
  refine (awake_ok w1).mono ?_
  rintro e w2 ⟨rfl, b2⟩
  have H2 : Hd (Below F0 w w2 ∧ Blk w2 F0 25 (faA x.r x.g x.n x.o (.slice a x.F.length c)) ∧ LsR w2 a c x.F) := ⟨H.out.1.trans (b2.mono (by have := H.out.2.1.lt; omega)), H.out.2.1.kept (Kept.of_below b2 (fun _ => False)) id, H.out.2.2.carry b2⟩
  clear b2 H
  obtain ⟨⟨x0, x1, x2, x3, x4⟩, -⟩ := H2.out.2.1.fair
  have SM := HSM.out w2 H2.out.2.2
  go_wp2_with fail
  go_at_call 5
  refine SM.mono ?_
  rintro e w3 ⟨⟨b, rfl, hb⟩, b3⟩
  clear SM x0 x1 x2 x3 x4 HSM
  have HB : Hd (IsF x.F b) := ⟨hb⟩
  clear hb
  have H3 : Hd (Below F0 w w3 ∧ Blk w3 F0 25 (faA x.r x.g x.n x.o (.slice a x.F.length c)) ∧ LsR w3 a c x.F) := ⟨H2.out.1.trans (b3.mono (by have := H2.out.2.1.lt; omega)), H2.out.2.1.kept (Kept.of_below b3 (fun _ => False)) id, H2.out.2.2.carry b3⟩
  clear b3 H2
  cases b with
  | false =>
    go_wp2_with fail
    go_ret
    exact ⟨rfl, by rw [← HF0.out]; exact H3.out.1⟩
  | true =>
    have HF : Hd (Few x.F) := ⟨⟨by have := (HB.out.yes rfl).1; omega, fun l hl => by
      obtain ⟨k, hk, e⟩ := mem_gl hl
      have := (HB.out.yes rfl).2 k hk
      rw [← e] at this
      exact ⟨HW.out l hl, by omega⟩⟩⟩
    clear HB HW
    obtain ⟨M, hM⟩ : ∃ M : Int, wtA x.F = M := ⟨_, rfl⟩
    have HM : Hd (wtA x.F = M) := ⟨hM⟩
    have hM2 := wtA_rng HF.out
    rw [hM] at hM2
    obtain ⟨hM3, hM4⟩ := hM2
    clear hM
    have WX : Hd (∀ W, LsR W a c x.F → Calls Try.prog 6 #[.agg #[.int .u64 x.r, .int .i64 x.g, .int .i64 x.n, .int .i64 x.o, .slice a x.F.length c]] W fun e w' => e = .returned (.int .i64 M) ∧ Below W.heap.size W w') := ⟨fun W q => by
      have := waiting_ok x.r x.g x.n x.o a c x.F W q HF.out
      rw [show wtT x.F x.F.length = M from HM.out] at this
      exact this⟩
    obtain ⟨⟨x0, x1, x2, x3, x4⟩, -⟩ := H3.out.2.1.fair
    have W3 := WX.out w3 H3.out.2.2
    go_wp2_with fail
    go_at_call 6
    refine W3.mono ?_
    rintro e w4 ⟨rfl, b4⟩
    clear W3 x0 x1 x2 x3 x4
    have H4 : Hd (Below F0 w w4 ∧ Blk w4 F0 25 (faA x.r x.g x.n x.o (.slice a x.F.length c)) ∧ LsR w4 a c x.F) := ⟨H3.out.1.trans (b4.mono (by have := H3.out.2.1.lt; omega)), H3.out.2.1.kept (Kept.of_below b4 (fun _ => False)) id, H3.out.2.2.carry b4⟩
    clear b4 H3
    by_cases hbig : (100 : Int) < M
    · go_wp2_with fail
      go_ret
      exact ⟨rfl, by rw [← HF0.out]; exact H4.out.1⟩
    · obtain ⟨y, hy⟩ : ∃ y, y = dpX x id' := ⟨_, rfl⟩
      obtain ⟨ok, hok⟩ : ∃ ok, ok = dpO x id' := ⟨_, rfl⟩
      obtain ⟨tt, htt⟩ : ∃ tt, tt = dpT x id' := ⟨_, rfl⟩
      have HY : Hd (y = dpX x id' ∧ ok = dpO x id' ∧ tt = dpT x id') := ⟨hy, hok, htt⟩
      have DP : Calls Try.prog 7 #[.agg #[.int .u64 x.r, .int .i64 x.g, .int .i64 x.n, .int .i64 x.o, .slice a x.F.length c], .int .i64 id'] w4 fun e w' => (∃ v, e = .returned (.tuple #[v, .agg #[.int .i64 tt.id, .int .i64 tt.wid, .int .i64 tt.sts, .int .i64 tt.sin, .int .i64 tt.unt], .bool ok]) ∧ FaT (fun _ => False) w' y v) ∧ Below w4.heap.size w4 w' := by
        rw [hy, hok, htt]
        exact drop_st x a c w4 (fun _ => False) (H4.out.2.2.st (Below.refl _ _) (fun _ h => h.elim)) (fun _ h => h.elim) HF.out id'
      clear hy hok htt
      obtain ⟨q0, q1, q2, q3, q4⟩ := tt
      simp only at DP
      obtain ⟨⟨x0, x1, x2, x3, x4⟩, -⟩ := H4.out.2.1.fair
      go_wp2_with fail
      go_at_call 7
      refine DP.mono ?_
      rintro e w5 ⟨⟨v, rfl, a5, c5, rfl, s5⟩, b5⟩
      clear DP x0 x1 x2 x3 x4
      obtain ⟨w6, hw6⟩ : ∃ w6, w6 = (w5.alloc (.cells #[.int .u64 y.r, .int .i64 y.g, .int .i64 y.n, .int .i64 y.o, .slice a5 y.F.length c5] 25)).alloc (.cells #[.int .i64 q0, .int .i64 q1, .int .i64 q2, .int .i64 q3, .int .i64 q4] 30) := ⟨_, rfl⟩
      obtain ⟨BB, NN, NT⟩ := boxes w5 25 30 #[.int .u64 y.r, .int .i64 y.g, .int .i64 y.n, .int .i64 y.o, .slice a5 y.F.length c5] #[.int .i64 q0, .int .i64 q1, .int .i64 q2, .int .i64 q3, .int .i64 q4]
      rw [← hw6] at BB NN NT
      have NN : Blk w6 w5.heap.size 25 (faA y.r y.g y.n y.o (.slice a5 y.F.length c5)) := NN
      have NT : Blk w6 (w5.heap.size + 1) 30 (tkA ⟨q0, q1, q2, q3, q4⟩) := NT
      have b46 := b5.trans (BB.mono b5.size)
      obtain ⟨A, hA⟩ : ∃ A, A = w5.heap.size := ⟨_, rfl⟩
      have hlt4 := H4.out.2.1.lt
      have H6 : Hd (FB w w6 A y ∧ Blk w6 F0 25 (faA x.r x.g x.n x.o (.slice a x.F.length c)) ∧ LsR w6 a c x.F ∧ Blk w6 (A + 1) 30 (tkA ⟨q0, q1, q2, q3, q4⟩) ∧ F0 ≠ A) := ⟨⟨by rw [← HF0.out]; exact H4.out.1.trans (b46.mono (by omega)), by rw [hA, ← HF0.out]; have := b5.size; omega, a5, c5, by rw [hA]; exact NN, s5.step (Kept.of_below BB _) (fun j hj e => by omega)⟩, H4.out.2.1.kept (Kept.of_below b46 (fun _ => False)) id, H4.out.2.2.carry b46, by rw [hA]; exact NT, by have := b5.size; omega⟩
      clear s5 b5 BB NN NT b46 H4 hlt4
      go_upto_region 6 with fail
      rw [← hw6, ← hA]
      clear hw6 hA
      by_cases hk : dpK x.F id' < x.F.length
      · obtain ⟨e1, e2, e3⟩ := dp_less hk
        rw [← HY.out.2.1] at e2
        rw [← HY.out.2.2] at e1
        rw [← HY.out.1] at e3
        have e1 : q0 = id' := e1
        subst e2
        subst e1
        obtain ⟨NN, hNN⟩ : ∃ NN : Nat, wtA y.F = NN := ⟨(wtA y.F).toNat, by have := (wtA_rng (F := y.F) (by rw [HY.out.1]; exact dpX_few HF.out _)).1; omega⟩
        have D0 : Hd (DrG y NN 0) := ⟨⟨by rw [HY.out.1]; exact dpX_few HF.out _, by rw [hNN]; omega⟩⟩
        have hN2 : M = (NN : Int) + 1 := by rw [← HM.out, ← hNN, e3]; omega
        have WX' : Hd (∀ W, LsR W a c x.F → Calls Try.prog 6 #[.agg #[.int .u64 x.r, .int .i64 x.g, .int .i64 x.n, .int .i64 x.o, .slice a x.F.length c]] W fun e w' => e = .returned (.int .i64 ((NN : Int) + 1)) ∧ Below W.heap.size W w') := ⟨fun W q => by rw [← hN2]; exact WX.out W q⟩
        have WY : Hd (∀ W b d, LsR W b d y.F → Calls Try.prog 6 #[.agg #[.int .u64 y.r, .int .i64 y.g, .int .i64 y.n, .int .i64 y.o, .slice b y.F.length d]] W fun e w' => e = .returned (.int .i64 (NN : Int)) ∧ Below W.heap.size W w') := ⟨fun W b d q => by
          have := waiting_ok y.r y.g y.n y.o b d y.F W q D0.out.few
          rw [show wtT y.F y.F.length = NN from hNN] at this
          exact this⟩
        have hN3 : (NN : Int) ≤ 200000 := by omega
        have HNW : Hd (IntKind.i64.wrap (NN : Int) = (NN : Int)) := ⟨by rw [IntKind.wrap_i64]; omega⟩
        clear hNN e3 hN2 WX HM hM3 hM4 hbig hk
        go_upto_region 8 with fail
        refine AnyG.start (T := fun Y => Below w6.drew.heap.size w6.drew Y) (U := fun _ => True) (j0 := 100) (by kernel_rfl) ?_
        obtain ⟨w7, hw7⟩ : ∃ w7, w7 = w6.drew := ⟨_, rfl⟩
        have BD : Below w6.heap.size w6 w7 := by rw [hw7]; exact (Below.refl _ _).drew
        rw [← hw7]
        clear hw7
        obtain ⟨a6, c6, k6, s6⟩ := H6.out.1.box
        have HG : Hd (∀ Y, Below w7.heap.size w7 Y → (Blk Y A 25 (faA y.r y.g y.n y.o (.slice a6 y.F.length c6)) ∧ LsR Y a6 c6 y.F) ∧ (Blk Y F0 25 (faA x.r x.g x.n x.o (.slice a x.F.length c)) ∧ LsR Y a c x.F) ∧ Blk Y (A + 1) 30 (tkA ⟨q0, q1, q2, q3, q4⟩) ∧ FB w Y A y) := ⟨fun Y q => by
          have qq := BD.trans (q.mono BD.size)
          have K4 : Kept (fun _ => False) w6 Y := Kept.of_below qq _
          exact ⟨⟨k6.kept K4 (fun h => h), s6.read (Kept.of_below qq _)⟩, ⟨H6.out.2.1.kept K4 (fun h => h), H6.out.2.2.1.carry qq⟩, H6.out.2.2.2.1.kept K4 (fun h => h), H6.out.1.carry qq⟩⟩
        have R : Below w7.heap.size w7 w7 := Below.refl _ _
        clear BD k6 s6 H6
        refine .tq 0 38 R ?_; simp only [oqA, oqB, oqC]
        refine .tq 1 39 R ?_ (hy := fun w hSw => by have s := (Blk.five (t := ⟨q0, q1, q2, q3, q4⟩) (HG.out w hSw).2.2.1).1; go_simp; rfl); simp only [oqA, oqB, oqC]
        refine .tq 2 40 R ?_; simp only [oqA, oqB, oqC]
        refine .tq (v := .bool false) 3 41 R ?_ (hy := fun w hSw => by go_simp; first | done | omega | rfl); simp only [oqA, oqB, oqC]
        refine .tq 4 42 R ?_; simp only [oqA, oqB, oqC]
        refine .tq 5 43 R ?_ (hy := fun w hSw => by have s := (HG.out w hSw).1.1.fair.1; go_simp; rfl); simp only [oqA, oqB, oqC]
        refine .tq 7 45 R ?_ (hy := fun w hSw => by have s := (HG.out w hSw).2.1.1.fair.1; go_simp; rfl); simp only [oqA, oqB, oqC]
        have CC := WY.out w7 a6 c6 (HG.out w7 R).1.2
        refine AnyG.ready (rs := [6]) (by kernel_rfl) (by simp) ?_
        refine AllG.cons rfl (fun K hK => ?_) AllG.nil
        go_simp
        refine CC.mono ?_
        rintro e w8 ⟨rfl, b8⟩
        have R8 : Below w7.heap.size w7 w8 := R.trans (b8.mono R.size)
        refine hK.out _ _ ⟨R8, fun _ => trivial⟩ ?_
        clear hK K CC b8
        have CC := WX'.out w8 (HG.out w8 R8).2.1.2
        refine AnyG.ready (rs := [8]) (by kernel_rfl) (by simp) ?_
        refine AllG.cons rfl (fun K hK => ?_) AllG.nil
        go_simp
        refine CC.mono ?_
        rintro e w9 ⟨rfl, b9⟩
        have R9 : Below w7.heap.size w7 w9 := R8.trans (b9.mono R8.size)
        refine hK.out _ _ ⟨R9, fun _ => trivial⟩ ?_
        clear hK K CC b9
        refine .tq (v := .int .i64 (NN : Int)) 9 47 R9 ?_ (hy := fun w hSw => by go_simp; first | done | rw [HNW.out] | simp only [HNW.out]); simp only [oqA, oqB, oqC]
        refine .tq (v := .bool false) 10 48 R9 ?_ (hy := fun w hSw => by go_simp; first | done | omega | rfl); simp only [oqA, oqB, oqC]
        refine .tq (v := .bool false) 11 49 R9 ?_ (hy := fun w hSw => by go_simp; first | done | omega | rfl); simp only [oqA, oqB, oqC]
        refine AnyG.done (by kernel_rfl) ?_ _
        have P9 : Hd (FB w w9 A y) := ⟨(HG.out w9 R9).2.2.2⟩
        clear HG R R8 R9 WX'
        obtain ⟨ab, cb, K, SS⟩ := P9.out.box
        obtain ⟨⟨x0, x1, x2, x3, x4⟩, -⟩ := K.fair
        have CC := WY.out w9 ab cb (SS.read (Kept.refl _ _))
        clear K SS WY HY HF
        go_wp2_with fail
        go_at_call 6
        refine CC.mono ?_
        rintro e w10 ⟨rfl, b10⟩
        clear CC x0 x1 x2 x3 x4
        have P10 : Hd (FB w w10 A y) := ⟨P9.out.carry b10⟩
        clear P9 b10
        go_wp2_with fail
        go_loopw [9] (fun i wr => ∃ (k : Nat) (z : Fa), k ≤ NN ∧ i = .int .i64 k ∧ DrG z NN k ∧ FB w wr A z) (fun i _ => NN - (intOf i).toNat)
        case atStart => exact ⟨0, y, Nat.zero_le _, rfl, D0.out, P10.out⟩
        case round =>
          clear P10 D0
          obtain ⟨k, z, hk, rfl, D, P⟩ := hrel
          have D : Hd (DrG z NN k) := ⟨D⟩
          have P : Hd (FB w wr A z) := ⟨P⟩
          by_cases hlt : k < NN
          · obtain ⟨p, e, hp, hne, D2⟩ := D.out.next hlt
            obtain ⟨t1, t2, -, -, -, t6, -⟩ := tk_less e hp hne
            obtain ⟨z', hz'⟩ : ∃ z', z' = tkX z := ⟨_, rfl⟩
            rw [← hz'] at D2 t6
            obtain ⟨tt, htt⟩ : ∃ tt, tt = gt (gl z.F p).L 0 := ⟨_, rfl⟩
            have HT : Hd (tt = gt (gl z.F p).L 0 ∧ tkT z = tt ∧ tkO z = true ∧ z' = tkX z) := ⟨htt, by rw [t1, htt], t2, hz'⟩
            obtain ⟨u0, u1, u2, u3, u4⟩ := tt
            have H7 : Hd (DrG z' NN (k + 1) ∧ wtA z'.F = (NN : Int) - 1 - (k : Int)) := ⟨D2, by rw [t6, D.out.wt]; omega⟩
            have HP : Hd (nxt z.F z.g = p ∧ p < z.F.length ∧ (gl z.F p).L ≠ []) := ⟨e, hp, hne⟩
            clear t1 t2 t6 htt hz' D2 e hne
            have i1 : (k : Int) < (NN : Int) := by omega
            have i2 : (p : Int) < (z.F.length : Int) := by omega
            have i3 : ¬ (p : Int) < 0 := by omega
            have i4 : ¬ (z.F.length : Int) ≤ (p : Int) := by omega
            clear hp
            obtain ⟨ab, cb, K, SS⟩ := P.out.box
            obtain ⟨⟨x0, x1, x2, x3, x4⟩, -⟩ := K.fair
            have NX := next_ok z.r z.g z.n z.o ab cb z.F wr (SS.read (Kept.refl _ _)) D.out.few
            rw [HP.out.1, nI_nat, nB_nat] at NX
            clear K SS
            go_wp2_with fail
            go_at_call 9
            refine NX.mono ?_
            rintro e w3 ⟨rfl, b3⟩
            clear NX x0 x1 x2 x3 x4
            have P3 : Hd (FB w w3 A z) := ⟨P.out.carry b3⟩
            clear P b3
            obtain ⟨ab, cb, K, SS⟩ := P3.out.box
            obtain ⟨⟨x0, x1, x2, x3, x4⟩, -⟩ := K.fair
            obtain ⟨b1, o1, a1, c1, rfl, hb1, -, d1, s1⟩ := (SS.read (Kept.refl _ _)).at HP.out.2.1
            obtain ⟨ll, hll⟩ : ∃ ll, ll = (gl z.F p).L.length := ⟨_, rfl⟩
            rw [← hll] at d1
            have hl0 : ((ll : Int) == 0) = false := by simp only [beq_eq_false_iff_ne]; have := len_pos HP.out.2.2; omega
            have hl1 : (0 : Int) < (ll : Int) := by have := len_pos HP.out.2.2; omega
            obtain ⟨b2, o2, e2, hb2, z0, z1, z2, z3, z4⟩ := s1.2.2.at (k := 0) (by have := len_pos HP.out.2.2; omega)
            rw [← HT.out.1] at z0 z1 z2 z3 z4
            subst e2
            simp only [Nat.zero_mul, Nat.add_zero] at z0 z1 z2 z3 z4
            clear s1 hll hb1 hb2
            obtain ⟨w3b, hw3b⟩ : ∃ W, W = w3.alloc (.cells #[.int .i64 u0, .int .i64 u1, .int .i64 u2, .int .i64 u3, .int .i64 u4] 30) := ⟨_, rfl⟩
            have B3 : Below w3.heap.size w3 w3b := by rw [hw3b]; exact alloc_below _ _
            have N3 : Blk w3b w3.heap.size 30 (tkA ⟨u0, u1, u2, u3, u4⟩) := by rw [hw3b]; exact Blk.new _ _ _
            obtain ⟨g3, hg3⟩ : ∃ g3, g3 = w3.heap.size := ⟨_, rfl⟩
            rw [← hg3] at N3
            have P3b : Hd (FB w w3b A z ∧ Blk w3b g3 30 (tkA ⟨u0, u1, u2, u3, u4⟩)) := ⟨P3.out.carry B3, N3⟩
            have K3b := K.kept (Kept.of_below B3 (fun _ => False)) (fun h => h)
            have TK : Calls Try.prog 10 #[.agg #[.int .u64 z.r, .int .i64 z.g, .int .i64 z.n, .int .i64 z.o, .slice (some ⟨b1, o1, none⟩) z.F.length cb]] w3b fun e w' => (∃ a' c', e = .returned (.tuple #[.agg #[.int .u64 z'.r, .int .i64 z'.g, .int .i64 z'.n, .int .i64 z'.o, .slice a' z'.F.length c'], .agg #[.int .i64 u0, .int .i64 u1, .int .i64 u2, .int .i64 u3, .int .i64 u4], .bool true]) ∧ StR (fun j => j = A) w' a' c' z'.F) ∧ Below w3b.heap.size w3b w' := by
              have T := take_st z (some ⟨b1, o1, none⟩) cb w3b (fun j => j = A) (SS.step (Kept.of_below B3 _) (fun _ _ e => e)) (fun j e => by have := P3b.out.1.lt; omega) D.out.few
              rw [HT.out.2.1, HT.out.2.2.1, ← HT.out.2.2.2] at T
              refine T.mono ?_
              rintro e w' ⟨⟨v, rfl, a', c', rfl, s'⟩, b'⟩
              exact ⟨⟨a', c', rfl, s'⟩, b'⟩
            clear SS B3 N3 P3
            go_upto_region 18 with fail
            rw [← hw3b, ← hg3]
            clear hw3b hg3 x0 x1 x2 x3 x4 d1 z0 z1 z2 z3 z4 K
            obtain ⟨⟨x0, x1, x2, x3, x4⟩, -⟩ := K3b.fair
            clear K3b
            go_wp2_with fail
            go_at_call 10
            refine TK.mono ?_
            rintro e w4 ⟨⟨a4, c4, rfl, s4⟩, b4⟩
            clear TK x0 x1 x2 x3 x4
            obtain ⟨w5, hw5⟩ : ∃ w5, w5 = (w4.alloc (.cells #[.int .u64 z'.r, .int .i64 z'.g, .int .i64 z'.n, .int .i64 z'.o, .slice a4 z'.F.length c4] 25)).alloc (.cells #[.int .i64 u0, .int .i64 u1, .int .i64 u2, .int .i64 u3, .int .i64 u4] 30) := ⟨_, rfl⟩
            obtain ⟨BB, N5, N6⟩ := boxes w4 25 30 #[.int .u64 z'.r, .int .i64 z'.g, .int .i64 z'.n, .int .i64 z'.o, .slice a4 z'.F.length c4] #[.int .i64 u0, .int .i64 u1, .int .i64 u2, .int .i64 u3, .int .i64 u4]
            rw [← hw5] at BB N5 N6
            have N5 : Blk w5 w4.heap.size 25 (faA z'.r z'.g z'.n z'.o (.slice a4 z'.F.length c4)) := N5
            have N6 : Blk w5 (w4.heap.size + 1) 30 (tkA ⟨u0, u1, u2, u3, u4⟩) := N6
            have b35 := b4.trans (BB.mono b4.size)
            obtain ⟨g4, hg4⟩ : ∃ g4, g4 = w4.heap.size := ⟨_, rfl⟩
            rw [← hg4] at N5 N6
            have N3c : Blk w5 g3 30 (tkA ⟨u0, u1, u2, u3, u4⟩) := P3b.out.2.kept (Kept.of_below b35 (fun _ => False)) (fun h => h)
            have H5 : Hd (FB w w5 A z ∧ Blk w5 g4 25 (faA z'.r z'.g z'.n z'.o (.slice a4 z'.F.length c4)) ∧ StR (fun j => j = A) w5 a4 c4 z'.F) := ⟨P3b.out.1.carry b35, N5, s4.step (Kept.of_below BB _) (fun _ _ e => e)⟩
            obtain ⟨⟨f0, f1, f2, f3, f4⟩, -⟩ := N6.five
            obtain ⟨⟨r0, r1, r2, r3, r4⟩, -⟩ := N3c.five
            simp only at f0 f1 f2 f3 f4 r0 r1 r2 r3 r4
            clear b4 s4 BB N5 N6 b35 N3c P3b
            obtain ⟨⟨x0, x1, x2, x3, x4⟩, -⟩ := H5.out.2.1.fair
            have WA : Calls Try.prog 6 #[.agg #[.int .u64 z'.r, .int .i64 z'.g, .int .i64 z'.n, .int .i64 z'.o, .slice a4 z'.F.length c4]] w5 fun e w' => e = .returned (.int .i64 ((NN : Int) - 1 - (k : Int))) ∧ Below w5.heap.size w5 w' := by
              have := waiting_ok z'.r z'.g z'.n z'.o a4 c4 z'.F w5 (H5.out.2.2.read (Kept.refl _ _)) H7.out.1.few
              rw [show wtT z'.F z'.F.length = (NN : Int) - 1 - (k : Int) from H7.out.2] at this
              exact this
            go_upto_region 19 with fail
            rw [← hw5, ← hg4]
            clear hw5 hg4
            go_wp2_with fail
            go_at_call 6
            refine WA.mono ?_
            rintro e w9' ⟨rfl, b9⟩
            clear WA x0 x1 x2 x3 x4 f0 f1 f2 f3 f4 r0 r1 r2 r3 r4
            have H9 : Hd (FB w w9' A z ∧ Blk w9' g4 25 (faA z'.r z'.g z'.n z'.o (.slice a4 z'.F.length c4)) ∧ StR (fun j => j = A) w9' a4 c4 z'.F) := ⟨H5.out.1.carry b9, H5.out.2.1.kept (Kept.of_below b9 (fun _ => False)) (fun h => h), H5.out.2.2.step (Kept.of_below b9 _) (fun _ _ e => e)⟩
            clear H5 b9
            obtain ⟨ab6, cb6, K6, S6⟩ := H9.out.1.box
            obtain ⟨⟨x0, x1, x2, x3, x4⟩, xf0, xf1, xf2, xf3, xf4⟩ := K6.fair
            obtain ⟨⟨y0, y1, y2, y3, y4⟩, -⟩ := H9.out.2.1.fair
            obtain ⟨v1, v2⟩ := fair_set K6 z'.r z'.g z'.n z'.o (.slice a4 z'.F.length c4)
            have PZ : Hd (FB w _ A z') := ⟨H9.out.1.put v2 v1 H9.out.2.2⟩
            clear v1 v2 K6 S6 H9
            go_upto_region 13 with fail
            clear x0 x1 x2 x3 x4 xf0 xf1 xf2 xf3 xf4 y0 y1 y2 y3 y4
            generalize World.setCell _ _ _ = wz at *
            go_wp2_with fail
            go_roundw
            case rel => exact ⟨k + 1, z', by omega, by go_num, H7.out.1, PZ.out⟩
            case measure => simp [intOf]; omega
          · obtain rfl : k = NN := by omega
            have h0 : wtA z.F = 0 := by rw [D.out.wt]; omega
            have h1 := st_zero h0
            obtain ⟨ab, cb, K, SS⟩ := P.out.box
            obtain ⟨⟨x0, x1, x2, x3, x4⟩, -⟩ := K.fair
            have CW : Calls Try.prog 6 #[.agg #[.int .u64 z.r, .int .i64 z.g, .int .i64 z.n, .int .i64 z.o, .slice ab z.F.length cb]] wr fun e w' => e = .returned (.int .i64 0) ∧ Below wr.heap.size wr w' := by
              have := waiting_ok z.r z.g z.n z.o ab cb z.F wr (SS.read (Kept.refl _ _)) D.out.few
              rw [show wtT z.F z.F.length = 0 from h0] at this
              exact this
            have CS : Hd (∀ W b d, LsR W b d z.F → Calls Try.prog 11 #[.agg #[.int .u64 z.r, .int .i64 z.g, .int .i64 z.n, .int .i64 z.o, .slice b z.F.length d]] W fun e w' => e = .returned (.int .i64 0) ∧ Below W.heap.size W w') := ⟨fun W b d q => by
              have := seatsF_ok z.r z.g z.n z.o b d z.F W q D.out.few
              rw [show stT z.F z.F.length = 0 from h1] at this
              exact this⟩
            clear K SS h0 h1
            go_wp2_with fail
            go_at_call 6
            refine CW.mono ?_
            rintro e w4 ⟨rfl, b4⟩
            clear CW x0 x1 x2 x3 x4
            have P4 : Hd (FB w w4 A z) := ⟨P.out.carry b4⟩
            clear P b4
            obtain ⟨ab, cb, K, SS⟩ := P4.out.box
            obtain ⟨⟨x0, x1, x2, x3, x4⟩, -⟩ := K.fair
            have CC := CS.out w4 ab cb (SS.read (Kept.refl _ _))
            clear K SS CS
            go_wp2_with fail
            go_at_call 11
            refine CC.mono ?_
            rintro e w5 ⟨rfl, b5⟩
            clear CC x0 x1 x2 x3 x4
            have Q : Hd (Below w.heap.size w w5) := ⟨(P4.out.carry b5).bel⟩
            clear P4 b5
            go_wp2_with fail
            go_ret
            exact ⟨rfl, Q.out⟩
      · obtain ⟨e1, e2⟩ := dp_no hk
        rw [← HY.out.2.1] at e2
        rw [← HY.out.1] at e1
        subst e2
        have HE : Hd (y = x) := ⟨e1⟩
        clear e1 hk
        obtain ⟨a6, c6, k6, s6⟩ := H6.out.1.box
        rw [HE.out] at k6 s6
        obtain ⟨⟨x0, x1, x2, x3, x4⟩, -⟩ := k6.fair
        obtain ⟨⟨y0, y1, y2, y3, y4⟩, -⟩ := H6.out.2.1.fair
        have SM := same22_ok x.r x.g x.n x.o a6 a c6 c x.F w6 (s6.read (Kept.refl _ _)) H6.out.2.2.1 HF.out
        have Q : Hd (Below w.heap.size w w6) := ⟨H6.out.1.bel⟩
        clear k6 s6 H6
        go_wp2_with fail
        go_at_call 8
        refine SM.mono ?_
        rintro e w7 ⟨rfl, b7⟩
        have Q7 : Hd (Below w.heap.size w w7) := ⟨Q.out.trans (b7.mono Q.out.size)⟩
        clear SM x0 x1 x2 x3 x4 y0 y1 y2 y3 y4 b7
        go_wp2_with fail
        go_ret
        exact ⟨rfl, Q7.out⟩
end Go.Proofs.Ytemmkkcfjhmomab
