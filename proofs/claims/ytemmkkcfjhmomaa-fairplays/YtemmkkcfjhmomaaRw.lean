/-
  Turns from the beginning on: what there is behind each of them, and who was taken. Conditions: the turns lie in memory.
-/
import Derived.Test.YtemmkkcfjhmomaaTu
namespace Go.Proofs.Ytemmkkcfjhmomaa
open Go.RowKit

/-- What joining leaves in three slots. -/
structure JnB (u : World) (S : Nat → Prop) (y : Fa) (kk ee : Int) (s24 s25 s26 : Value) (wx : World) : Prop where
  ex : ∃ q a' c', (s24 = .pointer (some ⟨q, 0, none⟩) ∧ s25 = .int .i64 kk ∧ s26 = .int .i64 ee) ∧ u.heap.size ≤ q ∧ Blk wx q 25 (faA y.r y.g y.n y.o (.slice a' y.F.length c')) ∧ StR S wx a' c' y.F ∧ Below u.heap.size u wx
/-- What turns leave. -/
def rX (o g : Int) (H : Nat → Tn) : Nat → Fa := rnX (nwX o g 64) H
def rP (o g : Int) (H : Nat → Tn) (k : Nat) : Int := tuA (rX o g H k) (H k)
def rR (o g : Int) (H : Nat → Tn) (k : Nat) : Int := tuW (rX o g H k) (H k)
structure RunA (w : World) (o g : Int) (H : Nat → Tn) (m : Nat) (e : Ending) : Prop where
  ex : ∃ aa ca af cf aw cw, e = .returned (.tuple #[.slice aa m ca, .slice af m cf, .slice aw m cw, .bool true]) ∧ AlR w aa m (fun k => rX o g H (k + 1)) ∧ HnR w af m (rP o g H) ∧ HnR w aw m (rR o g H)
theorem results_tmp4 {fn : Func} {t u v x : Tmp} (h : fn.results = #[.tmp t, .tmp u, .tmp v, .tmp x]) (tmps : Array Value) (P : Program) (w : World) :
    (results fn tmps).run P w = .ok (.tuple #[tmps.getD t undef, tmps.getD u undef, tmps.getD v undef, tmps.getD x undef]) w := by
  simp [results, h]
theorem nI_yes {b : Int} (h : 0 ≤ b) : nI b = b := if_neg (by omega)
theorem nI_no {b : Int} (h : ¬ 0 ≤ b) : nI b = 0 := if_pos (by omega)

set_option maxRecDepth 20000 in
set_option maxHeartbeats 2000000 in
theorem run_no (o g : Int) (a : Option Addr) (n c : Nat) (w : World) (hg : ¬ Good o g 64) :
    Calls Try.prog 33 #[.int .i64 o, .int .i64 g, .slice a n c] w fun e w' => e = .returned (.tuple #[.slice none 0 0, .slice none 0 0, .slice none 0 0, .bool false]) ∧ Below w.heap.size w w' := by
  have NW := new_no o g 64 w hg
  go_enter Try.func33, Try.ntmps33
  go_wp2_with fail
  go_at_call 12
  refine NW.mono ?_
  rintro e w1 ⟨rfl, b1⟩
  clear NW
  have R : Hd (Below w.heap.size w (w1.alloc (.cells #[.int .u64 0, .int .i64 0, .int .i64 0, .int .i64 0, .slice none 0 0] 25))) := ⟨b1.trans ((alloc_below w1 _).mono b1.size)⟩
  clear b1
  go_wp2_with fail
  (try simp only [Exit.inBlock, Exit.then])
  refine bodyPost_ret (results_tmp4 rfl _ _ _) rfl ?_
  exact ⟨rfl, R.out⟩

set_option maxRecDepth 20000 in
set_option maxHeartbeats 8000000 in
theorem run_yes (o g : Int) (a : Option Addr) (n c : Nat) (H : Nat → Tn) (w : World) (h : TnR w a n H) (hn : n ≤ 9223372036854775807) (hg : Good o g 64) :
    Calls Try.prog 33 #[.int .i64 o, .int .i64 g, .slice a n c] w fun e w' => RunA w' o g H (min n 300) e ∧ Below w.heap.size w w' := by
  have NW := new_st (fun j => j < w.heap.size) o g 64 w (fun _ h => h)
  rw [show nwE o g 64 = 0 from if_pos hg] at NW
  have HO : Hd (TnR w a n H) := ⟨h⟩
  have HIV : Hd (∀ k, k ≤ 300 → Few (rX o g H k).F ∧ (∀ j, (gl (rX o g H k).F j).L.length ≤ 64) ∧ Word (rX o g H k).r) := ⟨fun k hk => (Iv.run hg (Int.le_refl 16) k hk (fun i _ => clW_hi _)).few hk⟩
  obtain ⟨f, hf⟩ : ∃ f, f = fun k => rX o g H (k + 1) := ⟨_, rfl⟩
  obtain ⟨p, hp⟩ : ∃ p, p = rP o g H := ⟨_, rfl⟩
  obtain ⟨r, hr⟩ : ∃ r, r = rR o g H := ⟨_, rfl⟩
  have HF : Hd (f = (fun k => rX o g H (k + 1)) ∧ p = rP o g H ∧ r = rR o g H) := ⟨hf, hp, hr⟩
  obtain ⟨x0, hx0⟩ : ∃ x0, x0 = nwX o g 64 := ⟨_, rfl⟩
  have HX0 : Hd (x0 = rX o g H 0) := ⟨hx0⟩
  rw [← hx0] at NW
  clear h hg hf hp hr hx0
  go_enter Try.func33, Try.ntmps33
  go_wp2_with fail
  go_at_call 12
  refine NW.mono ?_
  rintro e w1 ⟨⟨v1, rfl, a1, c1, rfl, s1⟩, b1⟩
  clear NW
  obtain ⟨w2, hw2⟩ : ∃ w2, w2 = w1.alloc (.cells #[.int .u64 x0.r, .int .i64 x0.g, .int .i64 x0.n, .int .i64 x0.o, .slice a1 x0.F.length c1] 25) := ⟨_, rfl⟩
  have B2 : Below w1.heap.size w1 w2 := by rw [hw2]; exact alloc_below _ _
  have N2 : Blk w2 w1.heap.size 25 (faA x0.r x0.g x0.n x0.o (.slice a1 x0.F.length c1)) := by rw [hw2]; exact Blk.new _ _ _
  have P2 : Hd (RnI w w2 w1.heap.size x0 f p r 0 0 0 (.slice none 0 0) (.slice none 0 0) (.slice none 0 0)) := ⟨⟨b1.trans (B2.mono b1.size), b1.size, ⟨a1, c1, N2, s1.step (Kept.of_below B2 _) (fun j hj e => by
    rcases e with e | e | e | e
    · omega
    · cases e
    · cases e
    · cases e)⟩, ⟨[], World.ownsRow_nil _ _ _ _, rfl, (fun i z h => by simp at h), (fun z h => by cases h)⟩, World.ownsRow_nil _ _ _ _, World.ownsRow_nil _ _ _ _, (fun j h => by cases h)⟩⟩
  clear s1 b1 B2 N2
  go_upto_region 2 with fail
  rw [← hw2]
  clear hw2
  generalize w1.heap.size = A at *
  go_wp2_with fail
  go_loopw [12, 13, 14, 15] (fun s12 s13 s14 i wr => ∃ (k : Nat) (va vf vw : Value), va = s12 ∧ vf = s13 ∧ vw = s14 ∧ k ≤ n ∧ k ≤ 300 ∧ i = .int .i64 k ∧ RnI w wr A (rX o g H k) f p r k k k va vf vw) (fun _ _ _ i _ => n - (intOf i).toNat)
  case atStart => exact ⟨0, _, _, _, rfl, rfl, rfl, Nat.zero_le _, Nat.zero_le _, rfl, by rw [← HX0.out]; exact P2.out⟩
  case round =>
    clear P2
    obtain ⟨k, va, vf, vw, rfl, rfl, rfl, hk, hk2, rfl, x1⟩ := hrel
    have P : Hd (RnI w wr A (rX o g H k) f p r k k k va vf vw) := ⟨x1⟩
    clear x1
    by_cases hlt : k < n
    · by_cases hl2 : k < 300
      · obtain ⟨b, off, rfl, -, hc⟩ := (HO.out.carry P.out.bel) (by omega)
        have t0 := hc k hlt 0 (by decide)
        have t1 := hc k hlt 1 (by decide)
        have t2 := hc k hlt 2 (by decide)
        have HTC : Hd (∀ Y, Below wr.heap.size wr Y → Y.cell? ⟨b, off + k * 3 + 1, none⟩ = some (.int .i64 (H k).ln)) := ⟨fun Y q => by
          obtain ⟨b', off', e, -, hc'⟩ := (HO.out.carry (P.out.carry q).bel) (by omega)
          injection e with e
          injection e with e1 e2
          subst e1
          subst e2
          exact hc' k hlt 1 (by decide)⟩
        clear hc
        simp only [tnC, Nat.add_zero, List.getElem?_cons_zero, List.getElem?_cons_succ, ← Nat.add_assoc] at t0 t1 t2
        have i1 : (k : Int) < (n : Int) := by omega
        have i2 : (k : Int) < 300 := by omega
        obtain ⟨x, hx⟩ : ∃ x, x = rX o g H k := ⟨_, rfl⟩
        obtain ⟨x', hx'⟩ : ∃ x', x' = rX o g H (k + 1) := ⟨_, rfl⟩
        obtain ⟨tn, htn⟩ : ∃ tn, tn = H k := ⟨_, rfl⟩
        have HS : Hd (x' = rX o g H (k + 1) ∧ x' = tuX x k tn ∧ f k = x' ∧ p k = tuA x tn ∧ r k = tuW x tn) := ⟨hx', by rw [hx', hx, htn]; rfl, by rw [HF.out.1, hx'], by rw [HF.out.2.1, hx, htn]; rfl, by rw [HF.out.2.2, hx, htn]; rfl⟩
        have HI : Hd (Few x.F ∧ (∀ j, (gl x.F j).L.length ≤ 64) ∧ Word x.r) := ⟨by rw [hx]; exact HIV.out k hk2⟩
        rw [← hx] at P
        rw [← htn] at t0 t1 t2 HTC
        clear hx hx' htn
        obtain ⟨tk, ln, wi⟩ := tn
        simp only at t0 t1 t2 HTC
        cases tk with
        | true =>
          by_cases hN : 0 ≤ nxt x.F x.g
          · skip
            have HPK : Hd (p k = nxt x.F x.g ∧ r k = (tkT x).wid) := ⟨by rw [HS.out.2.2.2.1]; exact if_pos ⟨rfl, hN⟩, by rw [HS.out.2.2.2.2]; exact if_pos ⟨rfl, hN⟩⟩
            have HY : Hd (x' = tkX x) := ⟨by rw [HS.out.2.1]; exact if_pos rfl⟩
            obtain ⟨ab3, cb3, K3, S3⟩ := P.out.box
            obtain ⟨⟨x0, x1, x2, x3, x4⟩, -⟩ := K3.fair
            have NX := next_ok x.r x.g x.n x.o ab3 cb3 x.F wr (S3.read (Kept.refl _ _)) HI.out.1
            rw [nI_yes hN, show nB (nxt x.F x.g) = true from decide_eq_true hN] at NX
            obtain ⟨pk, hpk⟩ : ∃ pk, pk = nxt x.F x.g := ⟨_, rfl⟩
            rw [← hpk] at NX HPK
            have TK : Hd (∀ Y a c, StR (Mv A va vf vw) Y a c x.F → (∀ j, Mv A va vf vw j → j < Y.heap.size) → Calls Try.prog 23 #[.agg #[.int .u64 x.r, .int .i64 x.g, .int .i64 x.n, .int .i64 x.o, .slice a x.F.length c]] Y fun e w' => (∃ v, e = .returned (.tuple #[v, .agg #[.int .i64 (tkT x).id, .int .i64 (tkT x).wid, .int .i64 (tkT x).sts, .int .i64 (tkT x).sin, .int .i64 (tkT x).unt], .bool true]) ∧ FaT (Mv A va vf vw) w' x' v) ∧ Below Y.heap.size Y w') := ⟨fun Y a c q1 q2 => by
              have := take_st x a c Y (Mv A va vf vw) q1 q2 HI.out.1
              rw [show tkO x = true from decide_eq_true hN, ← HY.out] at this
              exact this⟩
            clear hpk
            obtain ⟨tt, htt⟩ : ∃ tt, tt = tkT x := ⟨_, rfl⟩
            rw [← htt] at TK HPK
            clear htt hN
            obtain ⟨q0, q1, q2, q3, q4⟩ := tt
            simp only at TK HPK
            go_wp2_with fail
            go_at_call 27
            refine NX.mono ?_
            rintro e w3 ⟨rfl, b3⟩
            clear NX x0 x1 x2 x3 x4 t0 t1 t2 HTC K3 S3
            have P3 : Hd _ := ⟨P.out.carry b3⟩
            clear P b3
            obtain ⟨ab4, cb4, K4, S4⟩ := P3.out.box
            obtain ⟨⟨x0, x1, x2, x3, x4⟩, -⟩ := K4.fair
            have TK4 := TK.out w3 ab4 cb4 S4 P3.out.mv
            clear TK
            go_wp2_with fail
            go_at_call 23
            refine TK4.mono ?_
            rintro e w4 ⟨⟨v4, rfl, a4, c4, rfl, s4⟩, b4⟩
            clear TK4 x0 x1 x2 x3 x4 K4 S4
            obtain ⟨w5, hw5⟩ : ∃ w5, w5 = (w4.alloc (.cells #[.int .u64 x'.r, .int .i64 x'.g, .int .i64 x'.n, .int .i64 x'.o, .slice a4 x'.F.length c4] 25)).alloc (.cells #[.int .i64 q0, .int .i64 q1, .int .i64 q2, .int .i64 q3, .int .i64 q4] 28) := ⟨_, rfl⟩
            obtain ⟨BB, N5, N6⟩ := boxes w4 25 28 #[.int .u64 x'.r, .int .i64 x'.g, .int .i64 x'.n, .int .i64 x'.o, .slice a4 x'.F.length c4] #[.int .i64 q0, .int .i64 q1, .int .i64 q2, .int .i64 q3, .int .i64 q4]
            rw [← hw5] at BB N5 N6
            have N5 : Blk w5 w4.heap.size 25 (faA x'.r x'.g x'.n x'.o (.slice a4 x'.F.length c4)) := N5
            have P5 : Hd (RnI w w5 A x f p r k k k va vf vw) := ⟨(P3.out.carry b4).carry BB⟩
            have S5 : StR (Mv A va vf vw) w5 a4 c4 x'.F := s4.step (Kept.of_below BB _) (fun _ _ e => e)
            obtain ⟨g4, hg4⟩ : ∃ g4, g4 = w4.heap.size := ⟨_, rfl⟩
            rw [← hg4] at N5 N6
            have H5 : Hd (Blk w5 g4 25 (faA x'.r x'.g x'.n x'.o (.slice a4 x'.F.length c4)) ∧ Blk w5 (g4 + 1) 28 (tkA ⟨q0, q1, q2, q3, q4⟩) ∧ StR (Mv A va vf vw) w5 a4 c4 x'.F) := ⟨N5, N6, S5⟩
            clear P3 b4 s4 BB N5 N6 S5
            go_upto_region 13 with fail
            rw [← hw5, ← hg4]
            clear hw5 hg4
            go_upto_region 16 with fail
            refine AnyG.start (T := fun Y => Below w5.drew.heap.size w5.drew Y) (U := fun _ => True) (j0 := 100) (by kernel_rfl) ?_
            obtain ⟨w6, hw6⟩ : ∃ w6, w6 = w5.drew := ⟨_, rfl⟩
            have BD : Below w5.heap.size w5 w6 := by rw [hw6]; exact (Below.refl _ _).drew
            rw [← hw6]
            clear hw6
            have P6 : Hd (RnI w w6 A x f p r k k k va vf vw) := ⟨P5.out.carry BD⟩
            have H6 : Hd (Blk w6 g4 25 (faA x'.r x'.g x'.n x'.o (.slice a4 x'.F.length c4)) ∧ Blk w6 (g4 + 1) 28 (tkA ⟨q0, q1, q2, q3, q4⟩) ∧ StR (Mv A va vf vw) w6 a4 c4 x'.F) := ⟨H5.out.1.kept (Kept.of_below BD (fun _ => False)) (fun h => h), H5.out.2.1.kept (Kept.of_below BD (fun _ => False)) (fun h => h), H5.out.2.2.step (Kept.of_below BD _) (fun _ _ e => e)⟩
            have R : Below w6.heap.size w6 w6 := Below.refl _ _
            clear P5 H5 BD
            refine .tq 0 65 R ?_; simp only [oqA, oqB, oqC]
            refine .tq 1 66 R ?_; simp only [oqA, oqB, oqC]
            refine .tq 2 67 R ?_ (hy := fun w hSw => by have s := (Blk.five (t := ⟨q0, q1, q2, q3, q4⟩) (H6.out.2.1.kept (Kept.of_below hSw (fun _ => False)) (fun h => h))).1; go_simp; rfl); simp only [oqA, oqB, oqC]
            refine .tq 3 16 R ?_; simp only [oqA, oqB, oqC]
            refine .tq 4 17 R ?_; simp only [oqA, oqB, oqC]
            refine AnyG.done (by kernel_rfl) ?_ _
            clear R
            go_upto_region 17 with fail
            obtain ⟨ab6, cb6, K6, S6⟩ := P6.out.box
            obtain ⟨⟨x0, x1, x2, x3, x4⟩, xf0, xf1, xf2, xf3, xf4⟩ := K6.fair
            obtain ⟨⟨y0, y1, y2, y3, y4⟩, -⟩ := H6.out.1.fair
            obtain ⟨z1, z2⟩ := fair_set K6 x'.r x'.g x'.n x'.o (.slice a4 x'.F.length c4)
            have PZ : Hd (RnI w _ A x' f p r k k k va vf vw) := ⟨P6.out.put z2 z1 H6.out.2.2⟩
            clear z1 z2 K6 S6 P6 H6
            go_upto_region 22 with fail
            clear x0 x1 x2 x3 x4 xf0 xf1 xf2 xf3 xf4 y0 y1 y2 y3 y4
            generalize World.setCell _ _ _ = wz at *
            obtain ⟨ab9, cb9, K9, S9⟩ := PZ.out.box
            obtain ⟨⟨x0, x1, x2, x3, x4⟩, -⟩ := K9.fair
            go_wp2_with (first
              | (at_builtin; refine wpl_pushA rfl _ _ rfl (PZ.out.carry (alloc_below _ _)) rfl wz.heap.size ab9 cb9 rfl (Blk.new _ _ _) (S9.step (Kept.of_below (alloc_below _ _) _) (fun _ _ e => e)) (by omega) HS.out.2.2.1 ?_; intro ga9 capa9 W9 P9)
              | (at_builtin; refine wpl_pushF rfl _ _ rfl (P9.carry (alloc_below _ _)) rfl W9.heap.size rfl (by rw [HPK.out.1]; exact Blk.new _ _ _) (by omega) ?_; intro gf9 capf9 V9 PV9)
              | (at_builtin; refine wpl_pushW rfl _ _ rfl (PV9.carry (alloc_below _ _)) rfl V9.heap.size rfl (by rw [HPK.out.2]; exact Blk.new _ _ _) (by omega) ?_; intro gw9 capw9 U9 PU9))
            have PE : Hd _ := ⟨PU9⟩
            clear P9 PV9 PU9 K9 S9 x0 x1 x2 x3 x4 PZ
            go_wp2_with fail
            go_roundw
            case rel => exact ⟨k + 1, _, _, _, rfl, rfl, rfl, by omega, by omega, by go_num, by rw [← HS.out.1]; exact PE.out⟩
            case measure => simp [intOf]; omega
          · skip
            have HPK : Hd (p k = -1 ∧ r k = 0) := ⟨by rw [HS.out.2.2.2.1]; exact if_neg (fun q => hN q.2), by rw [HS.out.2.2.2.2]; exact if_neg (fun q => hN q.2)⟩
            have HY : Hd (x' = tkX x) := ⟨by rw [HS.out.2.1]; exact if_pos rfl⟩
            obtain ⟨ab3, cb3, K3, S3⟩ := P.out.box
            obtain ⟨⟨x0, x1, x2, x3, x4⟩, -⟩ := K3.fair
            have NX := next_ok x.r x.g x.n x.o ab3 cb3 x.F wr (S3.read (Kept.refl _ _)) HI.out.1
            rw [nI_no hN, show nB (nxt x.F x.g) = false from decide_eq_false hN] at NX
            have TK : Hd (∀ Y a c, StR (Mv A va vf vw) Y a c x.F → (∀ j, Mv A va vf vw j → j < Y.heap.size) → Calls Try.prog 23 #[.agg #[.int .u64 x.r, .int .i64 x.g, .int .i64 x.n, .int .i64 x.o, .slice a x.F.length c]] Y fun e w' => (∃ v, e = .returned (.tuple #[v, .agg #[.int .i64 (tkT x).id, .int .i64 (tkT x).wid, .int .i64 (tkT x).sts, .int .i64 (tkT x).sin, .int .i64 (tkT x).unt], .bool false]) ∧ FaT (Mv A va vf vw) w' x' v) ∧ Below Y.heap.size Y w') := ⟨fun Y a c q1 q2 => by
              have := take_st x a c Y (Mv A va vf vw) q1 q2 HI.out.1
              rw [show tkO x = false from decide_eq_false hN, ← HY.out] at this
              exact this⟩
            obtain ⟨tt, htt⟩ : ∃ tt, tt = tkT x := ⟨_, rfl⟩
            rw [← htt] at TK
            clear htt hN
            obtain ⟨q0, q1, q2, q3, q4⟩ := tt
            simp only at TK
            go_wp2_with fail
            go_at_call 27
            refine NX.mono ?_
            rintro e w3 ⟨rfl, b3⟩
            clear NX x0 x1 x2 x3 x4 t0 t1 t2 HTC K3 S3
            have P3 : Hd _ := ⟨P.out.carry b3⟩
            clear P b3
            obtain ⟨ab4, cb4, K4, S4⟩ := P3.out.box
            obtain ⟨⟨x0, x1, x2, x3, x4⟩, -⟩ := K4.fair
            have TK4 := TK.out w3 ab4 cb4 S4 P3.out.mv
            clear TK
            go_wp2_with fail
            go_at_call 23
            refine TK4.mono ?_
            rintro e w4 ⟨⟨v4, rfl, a4, c4, rfl, s4⟩, b4⟩
            clear TK4 x0 x1 x2 x3 x4 K4 S4
            obtain ⟨w5, hw5⟩ : ∃ w5, w5 = (w4.alloc (.cells #[.int .u64 x'.r, .int .i64 x'.g, .int .i64 x'.n, .int .i64 x'.o, .slice a4 x'.F.length c4] 25)).alloc (.cells #[.int .i64 q0, .int .i64 q1, .int .i64 q2, .int .i64 q3, .int .i64 q4] 28) := ⟨_, rfl⟩
            obtain ⟨BB, N5, N6⟩ := boxes w4 25 28 #[.int .u64 x'.r, .int .i64 x'.g, .int .i64 x'.n, .int .i64 x'.o, .slice a4 x'.F.length c4] #[.int .i64 q0, .int .i64 q1, .int .i64 q2, .int .i64 q3, .int .i64 q4]
            rw [← hw5] at BB N5 N6
            have N5 : Blk w5 w4.heap.size 25 (faA x'.r x'.g x'.n x'.o (.slice a4 x'.F.length c4)) := N5
            have P5 : Hd (RnI w w5 A x f p r k k k va vf vw) := ⟨(P3.out.carry b4).carry BB⟩
            have S5 : StR (Mv A va vf vw) w5 a4 c4 x'.F := s4.step (Kept.of_below BB _) (fun _ _ e => e)
            obtain ⟨g4, hg4⟩ : ∃ g4, g4 = w4.heap.size := ⟨_, rfl⟩
            rw [← hg4] at N5 N6
            have H5 : Hd (Blk w5 g4 25 (faA x'.r x'.g x'.n x'.o (.slice a4 x'.F.length c4)) ∧ Blk w5 (g4 + 1) 28 (tkA ⟨q0, q1, q2, q3, q4⟩) ∧ StR (Mv A va vf vw) w5 a4 c4 x'.F) := ⟨N5, N6, S5⟩
            clear P3 b4 s4 BB N5 N6 S5
            go_upto_region 13 with fail
            rw [← hw5, ← hg4]
            clear hw5 hg4
            obtain ⟨w6, hw6⟩ : ∃ w6, w6 = w5 := ⟨_, rfl⟩
            have P6 : Hd (RnI w w6 A x f p r k k k va vf vw) := ⟨by rw [hw6]; exact P5.out⟩
            have H6 : Hd (Blk w6 g4 25 (faA x'.r x'.g x'.n x'.o (.slice a4 x'.F.length c4)) ∧ Blk w6 (g4 + 1) 28 (tkA ⟨q0, q1, q2, q3, q4⟩) ∧ StR (Mv A va vf vw) w6 a4 c4 x'.F) := ⟨by rw [hw6]; exact H5.out⟩
            rw [← hw6]
            clear hw6 P5 H5
            go_upto_region 17 with fail
            obtain ⟨ab6, cb6, K6, S6⟩ := P6.out.box
            obtain ⟨⟨x0, x1, x2, x3, x4⟩, xf0, xf1, xf2, xf3, xf4⟩ := K6.fair
            obtain ⟨⟨y0, y1, y2, y3, y4⟩, -⟩ := H6.out.1.fair
            obtain ⟨z1, z2⟩ := fair_set K6 x'.r x'.g x'.n x'.o (.slice a4 x'.F.length c4)
            have PZ : Hd (RnI w _ A x' f p r k k k va vf vw) := ⟨P6.out.put z2 z1 H6.out.2.2⟩
            clear z1 z2 K6 S6 P6 H6
            go_upto_region 22 with fail
            clear x0 x1 x2 x3 x4 xf0 xf1 xf2 xf3 xf4 y0 y1 y2 y3 y4
            generalize World.setCell _ _ _ = wz at *
            obtain ⟨ab9, cb9, K9, S9⟩ := PZ.out.box
            obtain ⟨⟨x0, x1, x2, x3, x4⟩, -⟩ := K9.fair
            go_wp2_with (first
              | (at_builtin; refine wpl_pushA rfl _ _ rfl (PZ.out.carry (alloc_below _ _)) rfl wz.heap.size ab9 cb9 rfl (Blk.new _ _ _) (S9.step (Kept.of_below (alloc_below _ _) _) (fun _ _ e => e)) (by omega) HS.out.2.2.1 ?_; intro ga9 capa9 W9 P9)
              | (at_builtin; refine wpl_pushF rfl _ _ rfl (P9.carry (alloc_below _ _)) rfl W9.heap.size rfl (by rw [HPK.out.1]; exact Blk.new _ _ _) (by omega) ?_; intro gf9 capf9 V9 PV9)
              | (at_builtin; refine wpl_pushW rfl _ _ rfl (PV9.carry (alloc_below _ _)) rfl V9.heap.size rfl (by rw [HPK.out.2]; exact Blk.new _ _ _) (by omega) ?_; intro gw9 capw9 U9 PU9))
            have PE : Hd _ := ⟨PU9⟩
            clear P9 PV9 PU9 K9 S9 x0 x1 x2 x3 x4 PZ
            go_wp2_with fail
            go_roundw
            case rel => exact ⟨k + 1, _, _, _, rfl, rfl, rfl, by omega, by omega, by go_num, by rw [← HS.out.1]; exact PE.out⟩
            case measure => simp [intOf]; omega
        | false =>
          have HPK : Hd (p k = -1 ∧ r k = 0) := ⟨by rw [HS.out.2.2.2.1]; exact if_neg (fun q => by cases q.1), by rw [HS.out.2.2.2.2]; exact if_neg (fun q => by cases q.1)⟩
          obtain ⟨kc, hkc⟩ : ∃ kc, kc = tuK x ⟨false, ln, wi⟩ := ⟨_, rfl⟩
          obtain ⟨y, hy⟩ : ∃ y, y = jnX x kc (tuT k ⟨false, ln, wi⟩) := ⟨_, rfl⟩
          obtain ⟨kk, hkk⟩ : ∃ kk, kk = jnK x kc := ⟨_, rfl⟩
          obtain ⟨ee, hee⟩ : ∃ ee, ee = jnE x kc := ⟨_, rfl⟩
          have HY : Hd (x' = if ee = 0 then y else x) := ⟨by rw [HS.out.2.1, hee, hy, hkc]; exact if_neg (fun q => by cases q)⟩
          obtain ⟨ab3, cb3, K3, S3⟩ := P.out.box
          obtain ⟨w3, hw3⟩ : ∃ w3, w3 = wr.alloc (.cells #[.int .i64 k, .int .i64 (min (max wi 1) 16), .int .i64 0, .int .i64 0, .int .i64 0] 28) := ⟨_, rfl⟩
          have B3 : Below wr.heap.size wr w3 := by rw [hw3]; exact alloc_below _ _
          have N3 : Blk w3 wr.heap.size 28 #[.int .i64 k, .int .i64 (min (max wi 1) 16), .int .i64 0, .int .i64 0, .int .i64 0] := by rw [hw3]; exact Blk.new _ _ _
          obtain ⟨g3, hg3⟩ : ∃ g3, g3 = wr.heap.size := ⟨_, rfl⟩
          rw [← hg3] at N3
          have P3 : Hd (RnI w w3 A x f p r k k k va vf vw) := ⟨P.out.carry B3⟩
          have S3' : Hd (StR (Mv A va vf vw) w3 ab3 cb3 x.F) := ⟨S3.step (Kept.of_below B3 _) (fun _ _ e => e)⟩
          have HY3 : Hd (∀ Y, Below w3.heap.size w3 Y → (Y.cell? ⟨A, 0, none⟩ = some (.int .u64 x.r) ∧ Y.cell? ⟨A, 1, none⟩ = some (.int .i64 x.g) ∧ Y.cell? ⟨A, 2, none⟩ = some (.int .i64 x.n) ∧ Y.cell? ⟨A, 3, none⟩ = some (.int .i64 x.o) ∧ Y.cell? ⟨A, 4, none⟩ = some (.slice ab3 x.F.length cb3)) ∧ (Y.cell? ⟨g3, 0, none⟩ = some (.int .i64 k) ∧ Y.cell? ⟨g3, 1, none⟩ = some (.int .i64 (min (max wi 1) 16)) ∧ Y.cell? ⟨g3, 2, none⟩ = some (.int .i64 0) ∧ Y.cell? ⟨g3, 3, none⟩ = some (.int .i64 0) ∧ Y.cell? ⟨g3, 4, none⟩ = some (.int .i64 0)) ∧ Y.cell? ⟨b, off + k * 3 + 1, none⟩ = some (.int .i64 ln)) := ⟨fun Y q => by
            have bq := B3.trans (q.mono B3.size)
            have NT : Blk Y g3 28 (tkA ⟨k, min (max wi 1) 16, 0, 0, 0⟩) := N3.kept (Kept.of_below q (fun _ => False)) (fun h => h)
            exact ⟨(K3.kept (Kept.of_below bq (fun _ => False)) (fun h => h)).fair.1, NT.five.1, HTC.out Y bq⟩⟩
          have CT : Hd (∀ Y q, Below w3.heap.size w3 Y → Blk Y q 3 #[.int .i64 ln] → Calls Try.prog 19 #[.agg #[.int .u64 x.r, .int .i64 x.g, .int .i64 x.n, .int .i64 x.o, .slice ab3 x.F.length cb3], .slice (some ⟨q, 0, none⟩) 1 1, .agg #[.int .i64 k, .int .i64 (min (max wi 1) 16), .int .i64 0, .int .i64 0, .int .i64 0]] Y fun e w' => ∃ a' c', e = .returned (.tuple #[.agg #[.int .u64 y.r, .int .i64 y.g, .int .i64 y.n, .int .i64 y.o, .slice a' y.F.length c'], .int .i64 kk, .int .i64 ee]) ∧ StR (fun j => Mv A va vf vw j ∨ (w3.heap.size ≤ j ∧ j < Y.heap.size)) w' a' c' y.F ∧ Below Y.heap.size Y w') := ⟨fun Y q bq nq => by
            have J := join_st x ab3 cb3 (some ⟨q, 0, none⟩) 1 1 (fun _ => ln) (tuT k ⟨false, ln, wi⟩) Y (fun j => Mv A va vf vw j ∨ (w3.heap.size ≤ j ∧ j < Y.heap.size)) (S3'.out.step (Kept.of_below bq _) (fun j hj e => e.elim (fun e => e) (fun e => by omega))) (fun j e => e.elim (fun e => Nat.lt_of_lt_of_le (P3.out.mv j e) bq.size) (fun e => e.2)) HI.out.1 (fun _ => ⟨q, 0, rfl, nq.lt, fun i hi => by
              obtain rfl : i = 0 := by omega
              exact nq.cellv 0 rfl⟩) (by decide)
            rw [show chF x.F x.o (fun _ => ln) 1 = kc from hkc.symm, ← hy, ← hkk, ← hee] at J
            refine J.mono ?_
            rintro e w' ⟨⟨v, rfl, a', c', rfl, s'⟩, b'⟩
            exact ⟨a', c', rfl, s', b'⟩⟩
          clear K3 S3 P N3 B3 HTC hkc hy hkk hee
          go_upto_region 19 with fail
          rw [← hw3, ← hg3]
          clear hw3 hg3 t0 t1 t2
          go_cut [24, 25, 26] from 78 to 90 (fun s24 s25 s26 wx => JnB w3 (Mv A va vf vw) y kk ee s24 s25 s26 wx)
          case first =>
            have B4 : Below w3.heap.size w3 w3.drew := (Below.refl _ _).drew
            refine AnyG.start (T := fun Y => Below w3.heap.size w3 Y) (U := fun _ => True) (j0 := 100) (by kernel_rfl) ?_
            generalize w3.drew = v0 at *
            refine .tq 0 79 B4 ?_ (hy := fun w hSw => by have s := (HY3.out w hSw).1; go_simp; rfl); simp only [oqA, oqB, oqC]
            refine .tq 1 80 B4 ?_; simp only [oqA, oqB, oqC]
            refine .tq 2 81 B4 ?_; simp only [oqA, oqB, oqC]
            refine .tq 3 82 B4 ?_; simp only [oqA, oqB, oqC]
            refine .tq 4 83 B4 ?_; simp only [oqA, oqB, oqC]
            refine .tq 5 84 B4 ?_ (hy := fun w hSw => by have s := (HY3.out w hSw).2.2; go_simp; rfl); simp only [oqA, oqB, oqC]
            refine .tq 7 86 B4 ?_ (hy := fun w hSw => by have s := (HY3.out w hSw).2.1; go_simp; rfl); simp only [oqA, oqB, oqC]
            refine AnyG.ready (rs := [6, 13]) (by kernel_rfl) (by simp) ?_
            refine AllG.cons rfl (fun K hK => ?_) (AllG.cons rfl (fun K hK => ?_) (AllG.nil))
            · skip
              go_simp
              have NS : Blk (v0.alloc (.cells #[.int .i64 ln] 3)) v0.heap.size 3 #[.int .i64 ln] := Blk.new _ _ _
              have b6 : Below v0.heap.size v0 (v0.alloc (.cells #[.int .i64 ln] 3)) := alloc_below _ _
              have B5 := B4.trans (b6.mono B4.size)
              refine hK.out _ _ ⟨B5, fun _ => trivial⟩ ?_
              clear hK K b6 B4
              have B4 := B5
              clear B5
              generalize v0.alloc _ = v1 at *
              generalize v0.heap.size = gs at *
              refine AnyG.ready (rs := [8, 13]) (by kernel_rfl) (by simp) ?_
              refine AllG.cons rfl (fun K hK => ?_) (AllG.cons rfl (fun K hK => ?_) (AllG.nil))
              · skip
                go_simp
                refine (CT.out v1 gs B4 NS).mono ?_
                rintro e v2 ⟨a6, c6, rfl, OC, b6⟩
                have B5 : Below w3.heap.size w3 v2 := B4.trans (b6.mono B4.size)
                have K1 : Kept (fun j => Mv A va vf vw j ∨ (w3.heap.size ≤ j ∧ j < v1.heap.size)) v2 v2 := Kept.refl _ _
                refine hK.out _ _ ⟨B5, fun _ => trivial⟩ ?_
                clear hK K b6 B4
                have B4 := B5
                clear B5
                refine .tq 9 78 B4 ?_; simp only [oqA, oqB, oqC]
                refine .tq 10 88 B4 ?_; simp only [oqA, oqB, oqC]
                refine .tq 11 89 B4 ?_; simp only [oqA, oqB, oqC]
                refine .tq 12 90 B4 ?_; simp only [oqA, oqB, oqC]
                refine AnyG.ready (rs := [13]) (by kernel_rfl) (by simp) ?_
                refine AllG.cons rfl (fun K hK => ?_) (AllG.nil)
                · skip
                  go_simp
                  have NA : Blk (v2.alloc (.cells #[.int .u64 0, .int .i64 0, .int .i64 0, .int .i64 0, .slice none 0 0] 25)) v2.heap.size 25 (faA 0 0 0 0 (.slice none 0 0)) := Blk.new _ _ _
                  have gea : Hd (w3.heap.size ≤ v2.heap.size) := ⟨B4.size⟩
                  have b6 : Below v2.heap.size v2 (v2.alloc (.cells #[.int .u64 0, .int .i64 0, .int .i64 0, .int .i64 0, .slice none 0 0] 25)) := alloc_below _ _
                  have B5 := B4.trans (b6.mono B4.size)
                  replace K1 := K1.trans (Kept.of_below b6 _)
                  refine hK.out _ _ ⟨B5, fun _ => trivial⟩ ?_
                  clear hK K b6 B4
                  have B4 := B5
                  clear B5
                  generalize v2.alloc _ = v3 at *
                  obtain ⟨ga, hga⟩ : ∃ ga, ga = v2.heap.size := ⟨_, rfl⟩
                  rw [← hga] at NA gea ⊢
                  obtain ⟨⟨r0, r1, r2, r3, r4⟩, f0, f1, f2, f3, f4⟩ := NA.fair
                  obtain ⟨q1, q2⟩ := fair_set NA y.r y.g y.n y.o (.slice a6 y.F.length c6)
                  have K2 := K1.then q2 (fun j hj e => by omega)
                  clear hga
                  have B6 := B4.trans (q2.below B4.size (fun j e => by have := gea.out; omega))
                  have OC2 := OC.step (T := Mv A va vf vw) K2 (fun j _ e => .inl e)
                  refine AnyG.ready (rs := [14]) (by kernel_rfl) (by simp) ?_
                  refine AllG.cons rfl (fun K hK => ?_) AllG.nil
                  go_simp
                  refine hK.out _ _ ⟨B6, fun _ => trivial⟩ ?_
                  clear hK K r0 r1 r2 r3 r4 f0 f1 f2 f3 f4
                  refine .tq 15 25 B6 ?_; simp only [oqA, oqB, oqC]
                  refine .tq 16 26 B6 ?_; simp only [oqA, oqB, oqC]
                  refine AnyG.done (by kernel_rfl) ?_ _
                  have HT : Hd (JnB w3 (Mv A va vf vw) y kk ee (.pointer (some ⟨ga, 0, none⟩)) (.int .i64 kk) (.int .i64 ee) _) := ⟨⟨ga, a6, c6, ⟨rfl, rfl, rfl⟩, gea.out, q1, OC2, B6⟩⟩
                  clear NA OC K1 K2 q1 q2 B4 B6 OC2 gea
                  go_wp2_with fail
                  go_meet
                  exact HT.out
              · skip
                go_simp
                have NA : Blk (v1.alloc (.cells #[.int .u64 0, .int .i64 0, .int .i64 0, .int .i64 0, .slice none 0 0] 25)) v1.heap.size 25 (faA 0 0 0 0 (.slice none 0 0)) := Blk.new _ _ _
                have gea : Hd (w3.heap.size ≤ v1.heap.size) := ⟨B4.size⟩
                have b6 : Below v1.heap.size v1 (v1.alloc (.cells #[.int .u64 0, .int .i64 0, .int .i64 0, .int .i64 0, .slice none 0 0] 25)) := alloc_below _ _
                have B5 := B4.trans (b6.mono B4.size)
                replace NS := NS.kept (Kept.of_below b6 (fun _ => False)) id
                refine hK.out _ _ ⟨B5, fun _ => trivial⟩ ?_
                clear hK K b6 B4
                have B4 := B5
                clear B5
                generalize v1.alloc _ = v2 at *
                generalize v1.heap.size = ga at *
                refine AnyG.ready (rs := [8]) (by kernel_rfl) (by simp) ?_
                refine AllG.cons rfl (fun K hK => ?_) (AllG.nil)
                · skip
                  go_simp
                  refine (CT.out v2 gs B4 NS).mono ?_
                  rintro e v3 ⟨a6, c6, rfl, OC, b6⟩
                  have B5 : Below w3.heap.size w3 v3 := B4.trans (b6.mono B4.size)
                  have hga : Hd (ga < v2.heap.size) := ⟨NA.lt⟩
                  replace NA := NA.kept (Kept.of_below b6 (fun _ => False)) id
                  have K1 : Kept (fun j => Mv A va vf vw j ∨ (w3.heap.size ≤ j ∧ j < v2.heap.size)) v3 v3 := Kept.refl _ _
                  refine hK.out _ _ ⟨B5, fun _ => trivial⟩ ?_
                  clear hK K b6 B4
                  have B4 := B5
                  clear B5
                  refine .tq 9 78 B4 ?_; simp only [oqA, oqB, oqC]
                  refine .tq 10 88 B4 ?_; simp only [oqA, oqB, oqC]
                  refine .tq 11 89 B4 ?_; simp only [oqA, oqB, oqC]
                  refine .tq 12 90 B4 ?_; simp only [oqA, oqB, oqC]
                  obtain ⟨⟨r0, r1, r2, r3, r4⟩, f0, f1, f2, f3, f4⟩ := NA.fair
                  obtain ⟨q1, q2⟩ := fair_set NA y.r y.g y.n y.o (.slice a6 y.F.length c6)
                  have K2 := K1.trans (q2.mono (fun j _ e => .inr ⟨by have := gea.out; omega, by have := hga.out; omega⟩))
                  have B6 := B4.trans (q2.below B4.size (fun j e => by have := gea.out; omega))
                  have OC2 := OC.step (T := Mv A va vf vw) K2 (fun j _ e => .inl e)
                  refine AnyG.ready (rs := [14]) (by kernel_rfl) (by simp) ?_
                  refine AllG.cons rfl (fun K hK => ?_) AllG.nil
                  go_simp
                  refine hK.out _ _ ⟨B6, fun _ => trivial⟩ ?_
                  clear hK K r0 r1 r2 r3 r4 f0 f1 f2 f3 f4
                  refine .tq 15 25 B6 ?_; simp only [oqA, oqB, oqC]
                  refine .tq 16 26 B6 ?_; simp only [oqA, oqB, oqC]
                  refine AnyG.done (by kernel_rfl) ?_ _
                  have HT : Hd (JnB w3 (Mv A va vf vw) y kk ee (.pointer (some ⟨ga, 0, none⟩)) (.int .i64 kk) (.int .i64 ee) _) := ⟨⟨ga, a6, c6, ⟨rfl, rfl, rfl⟩, gea.out, q1, OC2, B6⟩⟩
                  clear NA OC K1 K2 q1 q2 B4 B6 OC2 gea
                  go_wp2_with fail
                  go_meet
                  exact HT.out
            · skip
              go_simp
              have NA : Blk (v0.alloc (.cells #[.int .u64 0, .int .i64 0, .int .i64 0, .int .i64 0, .slice none 0 0] 25)) v0.heap.size 25 (faA 0 0 0 0 (.slice none 0 0)) := Blk.new _ _ _
              have gea : Hd (w3.heap.size ≤ v0.heap.size) := ⟨B4.size⟩
              have b6 : Below v0.heap.size v0 (v0.alloc (.cells #[.int .u64 0, .int .i64 0, .int .i64 0, .int .i64 0, .slice none 0 0] 25)) := alloc_below _ _
              have B5 := B4.trans (b6.mono B4.size)
              refine hK.out _ _ ⟨B5, fun _ => trivial⟩ ?_
              clear hK K b6 B4
              have B4 := B5
              clear B5
              generalize v0.alloc _ = v1 at *
              generalize v0.heap.size = ga at *
              refine AnyG.ready (rs := [6]) (by kernel_rfl) (by simp) ?_
              refine AllG.cons rfl (fun K hK => ?_) (AllG.nil)
              · skip
                go_simp
                have NS : Blk (v1.alloc (.cells #[.int .i64 ln] 3)) v1.heap.size 3 #[.int .i64 ln] := Blk.new _ _ _
                have b6 : Below v1.heap.size v1 (v1.alloc (.cells #[.int .i64 ln] 3)) := alloc_below _ _
                have B5 := B4.trans (b6.mono B4.size)
                replace NA := NA.kept (Kept.of_below b6 (fun _ => False)) id
                refine hK.out _ _ ⟨B5, fun _ => trivial⟩ ?_
                clear hK K b6 B4
                have B4 := B5
                clear B5
                generalize v1.alloc _ = v2 at *
                generalize v1.heap.size = gs at *
                refine AnyG.ready (rs := [8]) (by kernel_rfl) (by simp) ?_
                refine AllG.cons rfl (fun K hK => ?_) (AllG.nil)
                · skip
                  go_simp
                  refine (CT.out v2 gs B4 NS).mono ?_
                  rintro e v3 ⟨a6, c6, rfl, OC, b6⟩
                  have B5 : Below w3.heap.size w3 v3 := B4.trans (b6.mono B4.size)
                  have hga : Hd (ga < v2.heap.size) := ⟨NA.lt⟩
                  replace NA := NA.kept (Kept.of_below b6 (fun _ => False)) id
                  have K1 : Kept (fun j => Mv A va vf vw j ∨ (w3.heap.size ≤ j ∧ j < v2.heap.size)) v3 v3 := Kept.refl _ _
                  refine hK.out _ _ ⟨B5, fun _ => trivial⟩ ?_
                  clear hK K b6 B4
                  have B4 := B5
                  clear B5
                  refine .tq 9 78 B4 ?_; simp only [oqA, oqB, oqC]
                  refine .tq 10 88 B4 ?_; simp only [oqA, oqB, oqC]
                  refine .tq 11 89 B4 ?_; simp only [oqA, oqB, oqC]
                  refine .tq 12 90 B4 ?_; simp only [oqA, oqB, oqC]
                  obtain ⟨⟨r0, r1, r2, r3, r4⟩, f0, f1, f2, f3, f4⟩ := NA.fair
                  obtain ⟨q1, q2⟩ := fair_set NA y.r y.g y.n y.o (.slice a6 y.F.length c6)
                  have K2 := K1.trans (q2.mono (fun j _ e => .inr ⟨by have := gea.out; omega, by have := hga.out; omega⟩))
                  have B6 := B4.trans (q2.below B4.size (fun j e => by have := gea.out; omega))
                  have OC2 := OC.step (T := Mv A va vf vw) K2 (fun j _ e => .inl e)
                  refine AnyG.ready (rs := [14]) (by kernel_rfl) (by simp) ?_
                  refine AllG.cons rfl (fun K hK => ?_) AllG.nil
                  go_simp
                  refine hK.out _ _ ⟨B6, fun _ => trivial⟩ ?_
                  clear hK K r0 r1 r2 r3 r4 f0 f1 f2 f3 f4
                  refine .tq 15 25 B6 ?_; simp only [oqA, oqB, oqC]
                  refine .tq 16 26 B6 ?_; simp only [oqA, oqB, oqC]
                  refine AnyG.done (by kernel_rfl) ?_ _
                  have HT : Hd (JnB w3 (Mv A va vf vw) y kk ee (.pointer (some ⟨ga, 0, none⟩)) (.int .i64 kk) (.int .i64 ee) _) := ⟨⟨ga, a6, c6, ⟨rfl, rfl, rfl⟩, gea.out, q1, OC2, B6⟩⟩
                  clear NA OC K1 K2 q1 q2 B4 B6 OC2 gea
                  go_wp2_with fail
                  go_meet
                  exact HT.out
          case rest =>
            obtain ⟨q9, a9, c9, ⟨rfl, rfl, rfl⟩, hq9, N9, S9, B9⟩ := hcut.ex
            clear hcut HY3 CT S3'
            have P9 : Hd (RnI w wc A x f p r k k k va vf vw) := ⟨P3.out.carry B9⟩
            clear P3 B9
            by_cases h0 : ee = 0
            · have HY2 : Hd (y = x') := ⟨by rw [HY.out, if_pos h0]⟩
              rw [HY2.out] at N9 S9
              have h0' : (ee == 0) = true := by simp [h0]
              clear h0 HY HY2
              obtain ⟨ab6, cb6, K6, S6⟩ := P9.out.box
              obtain ⟨⟨x0, x1, x2, x3, x4⟩, xf0, xf1, xf2, xf3, xf4⟩ := K6.fair
              obtain ⟨⟨y0, y1, y2, y3, y4⟩, -⟩ := N9.fair
              obtain ⟨z1, z2⟩ := fair_set K6 x'.r x'.g x'.n x'.o (.slice a9 x'.F.length c9)
              have PZ : Hd (RnI w _ A x' f p r k k k va vf vw) := ⟨P9.out.put z2 z1 S9⟩
              clear z1 z2 K6 S6 P9 N9 S9
              go_upto_region 22 with fail
              clear x0 x1 x2 x3 x4 xf0 xf1 xf2 xf3 xf4 y0 y1 y2 y3 y4
              generalize World.setCell _ _ _ = wz at *
              obtain ⟨ab9, cb9, K9, S9⟩ := PZ.out.box
              obtain ⟨⟨x0, x1, x2, x3, x4⟩, -⟩ := K9.fair
              go_wp2_with (first
                | (at_builtin; refine wpl_pushA rfl _ _ rfl (PZ.out.carry (alloc_below _ _)) rfl wz.heap.size ab9 cb9 rfl (Blk.new _ _ _) (S9.step (Kept.of_below (alloc_below _ _) _) (fun _ _ e => e)) (by omega) HS.out.2.2.1 ?_; intro ga9 capa9 W9 P9)
                | (at_builtin; refine wpl_pushF rfl _ _ rfl (P9.carry (alloc_below _ _)) rfl W9.heap.size rfl (by rw [HPK.out.1]; exact Blk.new _ _ _) (by omega) ?_; intro gf9 capf9 V9 PV9)
                | (at_builtin; refine wpl_pushW rfl _ _ rfl (PV9.carry (alloc_below _ _)) rfl V9.heap.size rfl (by rw [HPK.out.2]; exact Blk.new _ _ _) (by omega) ?_; intro gw9 capw9 U9 PU9))
              have PE : Hd _ := ⟨PU9⟩
              clear P9 PV9 PU9 K9 S9 x0 x1 x2 x3 x4 PZ
              go_wp2_with fail
              go_roundw
              case rel => exact ⟨k + 1, _, _, _, rfl, rfl, rfl, by omega, by omega, by go_num, by rw [← HS.out.1]; exact PE.out⟩
              case measure => simp [intOf]; omega
            · have HY2 : Hd (x = x') := ⟨by rw [HY.out, if_neg h0]⟩
              have h0' : (ee == 0) = false := by simp [h0]
              rw [HY2.out] at P9
              clear h0 HY HY2 N9 S9
              obtain ⟨wz, hwz⟩ : ∃ wz, wz = wc := ⟨_, rfl⟩
              have PZ : Hd (RnI w wz A x' f p r k k k va vf vw) := ⟨by rw [hwz]; exact P9.out⟩
              rw [← hwz]
              clear hwz P9
              obtain ⟨ab9, cb9, K9, S9⟩ := PZ.out.box
              obtain ⟨⟨x0, x1, x2, x3, x4⟩, -⟩ := K9.fair
              go_wp2_with (first
                | (at_builtin; refine wpl_pushA rfl _ _ rfl (PZ.out.carry (alloc_below _ _)) rfl wz.heap.size ab9 cb9 rfl (Blk.new _ _ _) (S9.step (Kept.of_below (alloc_below _ _) _) (fun _ _ e => e)) (by omega) HS.out.2.2.1 ?_; intro ga9 capa9 W9 P9)
                | (at_builtin; refine wpl_pushF rfl _ _ rfl (P9.carry (alloc_below _ _)) rfl W9.heap.size rfl (by rw [HPK.out.1]; exact Blk.new _ _ _) (by omega) ?_; intro gf9 capf9 V9 PV9)
                | (at_builtin; refine wpl_pushW rfl _ _ rfl (PV9.carry (alloc_below _ _)) rfl V9.heap.size rfl (by rw [HPK.out.2]; exact Blk.new _ _ _) (by omega) ?_; intro gw9 capw9 U9 PU9))
              have PE : Hd _ := ⟨PU9⟩
              clear P9 PV9 PU9 K9 S9 x0 x1 x2 x3 x4 PZ
              go_wp2_with fail
              go_roundw
              case rel => exact ⟨k + 1, _, _, _, rfl, rfl, rfl, by omega, by omega, by go_num, by rw [← HS.out.1]; exact PE.out⟩
              case measure => simp [intOf]; omega
      · obtain rfl : k = 300 := by omega
        have i1 : ((300 : Nat) : Int) < (n : Int) := by omega
        obtain ⟨⟨a1, c1, rfl, l1⟩, ⟨a2, c2, rfl, l2⟩, ⟨a3, c3, rfl, l3⟩⟩ := P.out.out
        have HE : Hd (_ ∧ _ ∧ _ ∧ _) := ⟨l1, l2, l3, P.out.bel⟩
        clear l1 l2 l3 P
        go_wp2_with fail
        (try simp only [Exit.inBlock, Exit.then])
        refine bodyPost_ret (results_tmp4 rfl _ _ _) rfl ?_
        rw [HF.out.1, HF.out.2.1, HF.out.2.2] at HE
        rw [show min n 300 = 300 by omega]
        exact ⟨⟨a1, c1, a2, c2, a3, c3, rfl, HE.out.1, HE.out.2.1, HE.out.2.2.1⟩, HE.out.2.2.2⟩
    · obtain rfl : k = n := by omega
      obtain ⟨⟨a1, c1, rfl, l1⟩, ⟨a2, c2, rfl, l2⟩, ⟨a3, c3, rfl, l3⟩⟩ := P.out.out
      have HE : Hd (_ ∧ _ ∧ _ ∧ _) := ⟨l1, l2, l3, P.out.bel⟩
      clear l1 l2 l3 P
      go_wp2_with fail
      (try simp only [Exit.inBlock, Exit.then])
      refine bodyPost_ret (results_tmp4 rfl _ _ _) rfl ?_
      rw [HF.out.1, HF.out.2.1, HF.out.2.2] at HE
      rw [show min k 300 = k by omega]
      exact ⟨⟨a1, c1, a2, c2, a3, c3, rfl, HE.out.1, HE.out.2.1, HE.out.2.2.1⟩, HE.out.2.2.2⟩
end Go.Proofs.Ytemmkkcfjhmomaa
