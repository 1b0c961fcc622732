/-
  Whoever comes, goes and gives up, and however many lanes are open, step by step the lanes are the document's: the walk. Conditions: the script lies in memory.
-/
import Derived.Test.YtemmkkcfjhmomaaPm
import Derived.Test.YtemmkkcfjhmomaaOo
namespace Go.Proofs.Ytemmkkcfjhmomaa
open Go.RowKit

set_option maxRecDepth 20000 in
set_option maxHeartbeats 40000000 in
theorem plays_law (o g n : Int) (a : Option Addr) (sn sc : Nat) (H : Nat → Sc) (w : World) (h : ScR w a sn H) (hn : sn ≤ 9223372036854775807) :
    Calls Try.prog 4 #[.int .i64 o, .int .i64 g, .int .i64 n, .slice a sn sc] w fun e w' => e = .returned (.bool true) ∧ Below w.heap.size w w' := by
  have I := awake_ok w
  have HO : Hd (ScR w a sn H) := ⟨h⟩
  obtain ⟨x0, hx0⟩ : ∃ x0, x0 = nwX o g n := ⟨_, rfl⟩
  obtain ⟨e0, he0⟩ : ∃ e0, e0 = nwE o g n := ⟨_, rfl⟩
  have NW : Hd (∀ W (S : Nat → Prop), (∀ j, S j → j < W.heap.size) → (Calls Try.prog 12 #[.int .i64 o, .int .i64 g, .int .i64 n] W fun e w' => (∃ v, e = .returned (.tuple #[v, .int .i64 e0]) ∧ FaT S w' x0 v) ∧ Below W.heap.size W w') ∧ (Calls Try.prog 13 #[.int .i64 o, .int .i64 g, .int .i64 n] W fun e w' => (∃ v, e = .returned (.tuple #[v, .int .i64 e0]) ∧ FaT S w' x0 v) ∧ Below W.heap.size W w')) := ⟨fun W S hS => by
    rw [hx0, he0]
    exact ⟨new_st S o g n W hS, rnew_st S o g n W hS⟩⟩
  have HI0 : Hd (IvP 0 x0) := ⟨by rw [hx0]; exact IvP.new o g n⟩
  clear h hx0 he0
  go_enter Try.func4, Try.ntmps4
  go_upto_region 3 with (go_at_call 9; refine I.mono ?_; rintro e w1 ⟨rfl, b1⟩)
  have C1 := (NW.out w1 (fun _ => False) (fun _ h => h.elim)).1
  clear I
  go_wp2_with fail
  go_at_call 12
  refine C1.mono ?_
  rintro e w2 ⟨⟨v2, rfl, a2, c2, rfl, s2⟩, b2⟩
  obtain ⟨w3, hw3⟩ : ∃ w3, w3 = w2.alloc (.cells #[.int .u64 x0.r, .int .i64 x0.g, .int .i64 x0.n, .int .i64 x0.o, .slice a2 x0.F.length c2] 25) := ⟨_, rfl⟩
  have B3 : Below w2.heap.size w2 w3 := by rw [hw3]; exact alloc_below _ _
  have N3 : Blk w3 w2.heap.size 25 (faA x0.r x0.g x0.n x0.o (.slice a2 x0.F.length c2)) := by rw [hw3]; exact Blk.new _ _ _
  obtain ⟨gf, hgf⟩ : ∃ gf, gf = w2.heap.size := ⟨_, rfl⟩
  have b13 : Below w.heap.size w w3 := b1.trans ((b2.trans (B3.mono b2.size)).mono b1.size)
  have lgf : w.heap.size ≤ gf := by have := b1.size; have := b2.size; omega
  have HGF : Hd (gf = w2.heap.size) := ⟨hgf⟩
  rw [← hgf] at N3
  have s3 : StR (fun j => j = gf) w3 a2 c2 x0.F := s2.step (Kept.of_below B3 _) (fun j hj e => by omega)
  have hlt3 := N3.lt
  have C2 := (NW.out w3 (fun j => j = gf) (fun j e => by omega)).2
  clear C1 NW s2 b1 b2 B3
  go_upto_region 4 with fail
  rw [← hw3, ← hgf]
  clear hw3 hgf HGF
  go_wp2_with fail
  go_at_call 13
  refine C2.mono ?_
  rintro e w4 ⟨⟨v4, rfl, a4, c4, rfl, s4⟩, b4⟩
  obtain ⟨w5, hw5⟩ : ∃ w5, w5 = w4.alloc (.cells #[.int .u64 x0.r, .int .i64 x0.g, .int .i64 x0.n, .int .i64 x0.o, .slice a4 x0.F.length c4] 25) := ⟨_, rfl⟩
  have B5 : Below w4.heap.size w4 w5 := by rw [hw5]; exact alloc_below _ _
  have N5 : Blk w5 w4.heap.size 25 (faA x0.r x0.g x0.n x0.o (.slice a4 x0.F.length c4)) := by rw [hw5]; exact Blk.new _ _ _
  obtain ⟨gg, hgg⟩ : ∃ gg, gg = w4.heap.size := ⟨_, rfl⟩
  have hs4 := b4.size
  have P5 : Hd (PF w w5 gf gg x0) := ⟨⟨b13.trans ((b4.trans (B5.mono hs4)).mono b13.size), lgf, by omega, ⟨a2, c2, N3.kept (Kept.of_below (b4.trans (B5.mono hs4)) (fun _ => False)) id, s3.step (Kept.of_below (b4.trans (B5.mono hs4)) _) (fun j hj e => by omega)⟩, ⟨a4, c4, by rw [hgg]; exact N5, s4.step (Kept.of_below B5 _) (fun j hj e => by omega)⟩⟩⟩
  clear C2 s4 b4 B5 N5 N3 s3 b13 lgf hlt3 hs4
  obtain ⟨a3, c3, k3, r3⟩ := P5.out.f
  obtain ⟨a5, c5, k5, r5⟩ := P5.out.g
  obtain ⟨⟨x0', x1, x2, x3, x4⟩, -⟩ := k3.fair
  obtain ⟨⟨y0, y1, y2, y3, y4⟩, -⟩ := k5.fair
  have SM := same22_ok x0.r x0.g x0.n x0.o a3 a5 c3 c5 x0.F w5 (r3.read (Kept.refl _ _)) (r5.read (Kept.refl _ _)) HI0.out.few
  clear k3 r3 k5 r5
  go_upto_region 5 with fail
  rw [← hw5, ← hgg]
  clear hw5 hgg
  go_wp2_with fail
  go_at_call 16
  refine SM.mono ?_
  rintro e w6 ⟨rfl, b6⟩
  clear SM x0' x1 x2 x3 x4 y0 y1 y2 y3 y4
  have P6 : Hd (PF w w6 gf gg x0) := ⟨P5.out.carry b6⟩
  clear P5 b6
  by_cases he : e0 = 0
  · have he' : (e0 != 0) = false := by simp [he]
    clear he
    go_wp2_with fail
    go_loopw [13] (fun i wr => ∃ (k : Nat) (x : Fa), k ≤ sn ∧ k ≤ 120 ∧ i = .int .i64 k ∧ IvP k x ∧ PF w wr gf gg x) (fun i _ => sn - (intOf i).toNat)
    case atStart => exact ⟨0, x0, Nat.zero_le _, Nat.zero_le _, rfl, HI0.out, P6.out⟩
    case round =>
      clear P6 HI0
      obtain ⟨k, x, hk, hk2, rfl, iv, pf⟩ := hrel
      have IV : Hd (IvP k x) := ⟨iv⟩
      have P : Hd (PF w wr gf gg x) := ⟨pf⟩
      clear iv pf
      by_cases hlt : k < sn
      · by_cases hl2 : k < 120
        · obtain ⟨b, off, rfl, -, hc⟩ := (HO.out.carry P.out.bel) (by omega)
          obtain ⟨hcc, hok⟩ := hc k hlt
          have z0 := hcc 0 (by decide)
          have z1 := hcc 1 (by decide)
          have z2 := hcc 2 (by decide)
          have z3 := hcc 3 (by decide)
          have z4 := hcc 4 (by decide)
          have z5 := hcc 5 (by decide)
          have z6 := hcc 6 (by decide)
          have z7 := hcc 7 (by decide)
          simp only [scC, Nat.add_zero, List.getElem?_cons_zero, List.getElem?_cons_succ, ← Nat.add_assoc] at z0 z1 z2 z3 z4 z5 z6 z7
          have HSC : Hd (∀ Y, Below w.heap.size w Y → ScOk Y (H k)) := ⟨fun Y q => by
            obtain ⟨_, _, _, _, hc'⟩ := (HO.out.carry q) (by omega)
            exact (hc' k hlt).2⟩
          clear hc hcc hok
          generalize H k = sx at *
          obtain ⟨dd, ha, hn', hc', hf', ⟨t0, t1, t2, t3, t4⟩, op⟩ := sx
          simp only at z0 z1 z2 z3 z4 z5 z6 z7
          have i1 : (k : Int) < (sn : Int) := by omega
          have i2 : (k : Int) < 120 := by omega
          obtain ⟨w7, hw7⟩ : ∃ w7, w7 = wr.alloc (.cells #[.int .i64 dd, .slice ha hn' hc', .int .i64 t0, .int .i64 t1, .int .i64 t2, .int .i64 t3, .int .i64 t4, .int .i64 op] 54) := ⟨_, rfl⟩
          have B7 : Below wr.heap.size wr w7 := by rw [hw7]; exact alloc_below _ _
          have N7 : Blk w7 wr.heap.size 54 #[.int .i64 dd, .slice ha hn' hc', .int .i64 t0, .int .i64 t1, .int .i64 t2, .int .i64 t3, .int .i64 t4, .int .i64 op] := by rw [hw7]; exact Blk.new _ _ _
          obtain ⟨ob, hob⟩ : ∃ ob, ob = wr.heap.size := ⟨_, rfl⟩
          rw [← hob] at N7
          have P7 : Hd (PF w w7 gf gg x) := ⟨P.out.carry B7⟩
          clear P B7
          obtain ⟨a5, c5, k5, r5⟩ := P7.out.g
          obtain ⟨⟨y0, y1, y2, y3, y4⟩, -⟩ := k5.fair
          have CP := rcopy_st x a5 c5 w7 (fun j => j = gf ∨ j = gg) r5 P7.out.mv IV.out.few
          clear k5 r5
          go_upto_region 13 with fail
          rw [← hw7, ← hob]
          clear hw7 hob z0 z1 z2 z3 z4 z5 z6 z7
          go_wp2_with fail
          go_at_call 11
          refine CP.mono ?_
          rintro e w8 ⟨⟨v8, rfl, aw, cw, rfl, s8⟩, b8⟩
          clear CP y0 y1 y2 y3 y4
          have P8 : Hd (PF w w8 gf gg x) := ⟨P7.out.carry b8⟩
          obtain ⟨ao, co, k3, r3⟩ := P8.out.f
          obtain ⟨w9, hw9⟩ : ∃ w9, w9 = w8.alloc (.cells #[.int .u64 x.r, .int .i64 x.g, .int .i64 x.n, .int .i64 x.o, .slice aw x.F.length cw] 25) := ⟨_, rfl⟩
          have B9 : Below w8.heap.size w8 w9 := by rw [hw9]; exact alloc_below _ _
          have N9 : Blk w9 w8.heap.size 25 (faA x.r x.g x.n x.o (.slice aw x.F.length cw)) := by rw [hw9]; exact Blk.new _ _ _
          obtain ⟨w14, hw14⟩ : ∃ w14, w14 = w9.alloc (.cells #[.int .u64 x.r, .int .i64 x.g, .int .i64 x.n, .int .i64 x.o, .slice ao x.F.length co] 25) := ⟨_, rfl⟩
          have B14 : Below w9.heap.size w9 w14 := by rw [hw14]; exact alloc_below _ _
          have N14 : Blk w14 w9.heap.size 25 (faA x.r x.g x.n x.o (.slice ao x.F.length co)) := by rw [hw14]; exact Blk.new _ _ _
          have b89 := B9.trans (B14.mono B9.size)
          obtain ⟨gw, hgw⟩ : ∃ gw, gw = w8.heap.size := ⟨_, rfl⟩
          obtain ⟨go, hgo⟩ : ∃ go, go = w9.heap.size := ⟨_, rfl⟩
          obtain ⟨⟨x0, x1, x2, x3, x4⟩, -⟩ := (k3.kept (Kept.of_below B9 (fun _ => False)) (fun h => h)).fair
          have hgg7 := P7.out.hi
          have hgt := P7.out.lt
          rw [← hgw] at N9
          rw [← hgo] at N14
          have H14 : Hd (PF w w14 gf gg x ∧ Blk w14 ob 54 #[.int .i64 dd, .slice ha hn' hc', .int .i64 t0, .int .i64 t1, .int .i64 t2, .int .i64 t3, .int .i64 t4, .int .i64 op] ∧ Blk w14 gw 25 (faA x.r x.g x.n x.o (.slice aw x.F.length cw)) ∧ Blk w14 go 25 (faA x.r x.g x.n x.o (.slice ao x.F.length co)) ∧ StR (fun j => j = gf ∨ j = gg) w14 aw cw x.F ∧ StR (fun j => j = gf ∨ j = gg) w14 ao co x.F ∧ (ob ≠ gf ∧ ob ≠ gg ∧ gw ≠ gf ∧ gw ≠ gg ∧ go ≠ gf ∧ go ≠ gg) ∧ ScOk w14 ⟨dd, ha, hn', hc', hf', ⟨t0, t1, t2, t3, t4⟩, op⟩) := ⟨P8.out.carry b89, (N7.kept (Kept.of_below b8 (fun _ => False)) (fun h => h)).kept (Kept.of_below b89 (fun _ => False)) (fun h => h), N9.kept (Kept.of_below B14 (fun _ => False)) (fun h => h), N14, s8.step (Kept.of_below b89 _) (fun _ _ e => e), r3.step (Kept.of_below b89 _) (fun _ _ e => e), by
            obtain ⟨_, _, u1, _⟩ := P7.out.f
            obtain ⟨_, _, u2, _⟩ := P7.out.g
            have n1 := N7.ne u1 (by decide)
            have n2 := N7.ne u2 (by decide)
            have := b8.size
            have := B9.size
            refine ⟨n1, n2, ?_, ?_, ?_, ?_⟩ <;> omega, HSC.out w14 (P8.out.carry b89).bel⟩
          clear HSC P7 P8 N7 N9 N14 s8 r3 k3 b8 B9 B14 b89 hgg7 hgt
          go_upto_region 14 with fail
          rw [← hw9, ← hgw]
          clear hw9 hgw
          go_upto_region 15 with fail
          rw [← hw14, ← hgo]
          clear hw14 hgo x0 x1 x2 x3 x4
          obtain ⟨z0, z1, z2, z3, z4, z5, z6, z7⟩ := H14.out.2.1.sc
          obtain ⟨t, ht1, ht2⟩ : ∃ t : Nat, (IntKind.u64.wrap dd).tmod 5 = (t : Int) ∧ t < 5 := by
            refine ⟨((IntKind.u64.wrap dd) % 5).toNat, ?_⟩
            have h0 : 0 ≤ IntKind.u64.wrap dd := by rw [IntKind.wrap_u64]; omega
            rw [Int.tmod_eq_emod_of_nonneg h0]
            omega
          have TL : Hd (∀ W, Kept (fun j => j = gf ∨ j = gg) w14 W → Blk W gw 25 (faA x.r x.g x.n x.o (.slice aw x.F.length cw)) ∧ Blk W go 25 (faA x.r x.g x.n x.o (.slice ao x.F.length co)) ∧ LsR W aw cw x.F ∧ LsR W ao co x.F) := ⟨fun W q => ⟨H14.out.2.2.1.kept q (by have := H14.out.2.2.2.2.2.2.1; omega), H14.out.2.2.2.1.kept q (by have := H14.out.2.2.2.2.2.2.1; omega), H14.out.2.2.2.2.1.read q, H14.out.2.2.2.2.2.1.read q⟩⟩
          rcases (by omega : t = 0 ∨ t = 1 ∨ t = 2 ∨ t = 3 ∨ t = 4) with rfl | rfl | rfl | rfl | rfl
          · as_aux_lemma =>
              obtain ⟨nh, hnh, hnh2, hnh3⟩ : ∃ nh : Nat, min (hn' : Int) 20 = (nh : Int) ∧ nh ≤ hn' ∧ nh ≤ 20 := ⟨min hn' 20, by omega, by omega, by omega⟩
              obtain ⟨kc, hkc⟩ : ∃ kc, kc = chF x.F x.o hf' nh := ⟨_, rfl⟩
              obtain ⟨y, hy⟩ : ∃ y, y = jnX x kc ⟨t0, t1, t2, t3, t4⟩ := ⟨_, rfl⟩
              obtain ⟨kk, hkk⟩ : ∃ kk, kk = jnK x kc := ⟨_, rfl⟩
              obtain ⟨ee, hee⟩ : ∃ ee, ee = jnE x kc := ⟨_, rfl⟩
              have IY0 : Hd (ee = 0 → IvP (k + 1) y) := ⟨fun e => by rw [hy]; exact IV.out.join (by omega) (by rw [← hee]; exact e) _⟩
              have hcap : nh ≤ hc' ∧ hn' ≤ hc' := by have := H14.out.2.2.2.2.2.2.2.2.2.1; simp only at this; omega
              have HSK : Hd (ScOk w14 ⟨dd, ha, hn', hc', hf', ⟨t0, t1, t2, t3, t4⟩, op⟩) := ⟨H14.out.2.2.2.2.2.2.2⟩
              have CJ : Hd (∀ u Y a c, u ≤ Y.heap.size → StR (fun j => (j = gf ∨ j = gg) ∨ (u ≤ j ∧ j < Y.heap.size)) Y a c x.F → PF w Y gf gg x → Below w14.heap.size w14 Y → (Calls Try.prog 19 #[.agg #[.int .u64 x.r, .int .i64 x.g, .int .i64 x.n, .int .i64 x.o, .slice a x.F.length c], .slice ha nh hc', .agg #[.int .i64 t0, .int .i64 t1, .int .i64 t2, .int .i64 t3, .int .i64 t4]] Y fun e w' => ∃ a' c', e = .returned (.tuple #[.agg #[.int .u64 y.r, .int .i64 y.g, .int .i64 y.n, .int .i64 y.o, .slice a' y.F.length c'], .int .i64 kk, .int .i64 ee]) ∧ StR (fun j => (j = gf ∨ j = gg) ∨ (u ≤ j ∧ j < Y.heap.size)) w' a' c' y.F ∧ Below Y.heap.size Y w') ∧ (Calls Try.prog 20 #[.agg #[.int .u64 x.r, .int .i64 x.g, .int .i64 x.n, .int .i64 x.o, .slice a x.F.length c], .slice ha nh hc', .agg #[.int .i64 t0, .int .i64 t1, .int .i64 t2, .int .i64 t3, .int .i64 t4]] Y fun e w' => ∃ a' c', e = .returned (.tuple #[.agg #[.int .u64 y.r, .int .i64 y.g, .int .i64 y.n, .int .i64 y.o, .slice a' y.F.length c'], .int .i64 kk, .int .i64 ee]) ∧ StR (fun j => (j = gf ∨ j = gg) ∨ (u ≤ j ∧ j < Y.heap.size)) w' a' c' y.F ∧ Below Y.heap.size Y w')) := ⟨fun u Y a c q0 q1 q2 q3 => by
                have hh : HnR Y ha nh hf' := (HSK.out.1.carry q3).less hnh2
                have A := join_st x a c ha nh hc' hf' ⟨t0, t1, t2, t3, t4⟩ Y (fun j => (j = gf ∨ j = gg) ∨ (u ≤ j ∧ j < Y.heap.size)) q1 (fun j e => e.elim (fun e => q2.mv j e) (fun e => e.2)) IV.out.few hh (by omega)
                have B := rjoin_st x a c ha nh hc' hf' ⟨t0, t1, t2, t3, t4⟩ Y (fun j => (j = gf ∨ j = gg) ∨ (u ≤ j ∧ j < Y.heap.size)) q1 (fun j e => e.elim (fun e => q2.mv j e) (fun e => e.2)) IV.out.few hh (by omega)
                rw [← hkc, ← hy, ← hkk, ← hee] at A B
                refine ⟨A.mono ?_, B.mono ?_⟩
                · rintro e w' ⟨⟨v, rfl, a', c', rfl, s'⟩, b'⟩
                  exact ⟨a', c', rfl, s', b'⟩
                · rintro e w' ⟨⟨v, rfl, a', c', rfl, s'⟩, b'⟩
                  exact ⟨a', c', rfl, s', b'⟩⟩
              clear hkc hy hkk hee HSK
              obtain ⟨hcap, hcap2⟩ := hcap
              have hcapI : (nh : Int) ≤ (hc' : Int) := by omega
              have hnh0 : (0 : Int) ≤ (nh : Int) := by omega
              have HNH : Hd (nh ≤ hn') := ⟨hnh2⟩
              go_upto_region 24 with fail
              clear z0 z1 z2 z3 z4 z5 z6 z7
              obtain ⟨a3, c3, k3, r3⟩ := H14.out.1.f
              have HY : Hd (∀ Y, Below w14.heap.size w14 Y → (Y.cell? ⟨gf, 0, none⟩ = some (.int .u64 x.r) ∧ Y.cell? ⟨gf, 1, none⟩ = some (.int .i64 x.g) ∧ Y.cell? ⟨gf, 2, none⟩ = some (.int .i64 x.n) ∧ Y.cell? ⟨gf, 3, none⟩ = some (.int .i64 x.o) ∧ Y.cell? ⟨gf, 4, none⟩ = some (.slice a3 x.F.length c3)) ∧ (Y.cell? ⟨ob, 0, none⟩ = some (.int .i64 dd) ∧ Y.cell? ⟨ob, 1, none⟩ = some (.slice ha hn' hc') ∧ Y.cell? ⟨ob, 2, none⟩ = some (.int .i64 t0) ∧ Y.cell? ⟨ob, 3, none⟩ = some (.int .i64 t1) ∧ Y.cell? ⟨ob, 4, none⟩ = some (.int .i64 t2) ∧ Y.cell? ⟨ob, 5, none⟩ = some (.int .i64 t3) ∧ Y.cell? ⟨ob, 6, none⟩ = some (.int .i64 t4) ∧ Y.cell? ⟨ob, 7, none⟩ = some (.int .i64 op))) := ⟨fun Y q => ⟨(k3.kept (Kept.of_below q (fun _ => False)) (fun h => h)).fair.1, (H14.out.2.1.kept (Kept.of_below q (fun _ => False)) (fun h => h)).sc⟩⟩
              have CT : Hd (∀ Y, Below w14.heap.size w14 Y → Calls Try.prog 19 #[.agg #[.int .u64 x.r, .int .i64 x.g, .int .i64 x.n, .int .i64 x.o, .slice a3 x.F.length c3], .slice ha nh hc', .agg #[.int .i64 t0, .int .i64 t1, .int .i64 t2, .int .i64 t3, .int .i64 t4]] Y fun e w' => ∃ a' c', e = .returned (.tuple #[.agg #[.int .u64 y.r, .int .i64 y.g, .int .i64 y.n, .int .i64 y.o, .slice a' y.F.length c'], .int .i64 kk, .int .i64 ee]) ∧ StR (fun j => (j = gf ∨ j = gg) ∨ (w14.heap.size ≤ j ∧ j < Y.heap.size)) w' a' c' y.F ∧ Below Y.heap.size Y w') := ⟨fun Y q => (CJ.out w14.heap.size Y a3 c3 q.size (r3.step (Kept.of_below q _) (fun j hj e => e.elim (fun e => e) (fun e => by omega))) (H14.out.1.carry q) q).1⟩
              clear k3 r3
              go_cut [17, 18, 19] from 115 to 129 (fun s17 s18 s19 wx => JnB w14 (fun j => j = gf ∨ j = gg) y kk ee s17 s18 s19 wx)
              case first =>
                have B4 : Below w14.heap.size w14 w14.drew := (Below.refl _ _).drew
                refine AnyG.start (T := fun Y => Below w14.heap.size w14 Y) (U := fun _ => True) (j0 := 100) (by kernel_rfl) ?_
                generalize w14.drew = v0 at *
                refine .tq 0 116 B4 ?_ (hy := fun w hSw => by have s := (HY.out w hSw).1; go_simp; rfl); simp only [oqA, oqB, oqC]
                refine .tq 1 117 B4 ?_; simp only [oqA, oqB, oqC]
                refine .tq 2 118 B4 ?_ (hy := fun w hSw => by have s := (HY.out w hSw).2; go_simp; rfl); simp only [oqA, oqB, oqC]
                refine .tq 3 119 B4 ?_; simp only [oqA, oqB, oqC]
                refine .tq 4 120 B4 ?_ (hy := fun w hSw => by have s := (HY.out w hSw).2; go_simp; rfl); simp only [oqA, oqB, oqC]
                refine .tq 5 121 B4 ?_; simp only [oqA, oqB, oqC]
                refine .tq (v := .int .i64 nh) 6 122 B4 ?_ (hy := fun w hSw => by go_simp; first | done | rfl | rw [hnh]); simp only [oqA, oqB, oqC]
                refine .tq (v := .slice ha nh hc') 7 123 B4 ?_ (hy := fun w hSw => by go_simp; first | done | rfl | trace_state); simp only [oqA, oqB, oqC]
                refine .tq 8 124 B4 ?_; simp only [oqA, oqB, oqC]
                refine .tq 9 125 B4 ?_ (hy := fun w hSw => by have s := (HY.out w hSw).2; go_simp; rfl); simp only [oqA, oqB, oqC]
                refine AnyG.ready (rs := [10, 15]) (by kernel_rfl) (by simp) ?_
                refine AllG.cons rfl (fun K hK => ?_) (AllG.cons rfl (fun K hK => ?_) (AllG.nil))
                · skip
                  go_simp
                  refine (CT.out v0 B4).mono ?_
                  rintro e v1 ⟨a6, c6, rfl, OC, b6⟩
                  have B5 : Below w14.heap.size w14 v1 := B4.trans (b6.mono B4.size)
                  have K1 : Kept (fun j => (j = gf ∨ j = gg) ∨ (w14.heap.size ≤ j ∧ j < v0.heap.size)) v1 v1 := Kept.refl _ _
                  refine hK.out _ _ ⟨B5, fun _ => trivial⟩ ?_
                  clear hK K b6 B4
                  have B4 := B5
                  clear B5
                  refine .tq 11 115 B4 ?_; simp only [oqA, oqB, oqC]
                  refine .tq 12 127 B4 ?_; simp only [oqA, oqB, oqC]
                  refine .tq 13 128 B4 ?_; simp only [oqA, oqB, oqC]
                  refine .tq 14 129 B4 ?_; simp only [oqA, oqB, oqC]
                  refine AnyG.ready (rs := [15]) (by kernel_rfl) (by simp) ?_
                  refine AllG.cons rfl (fun K hK => ?_) (AllG.nil)
                  · skip
                    go_simp
                    have NA : Blk (v1.alloc (.cells #[.int .u64 0, .int .i64 0, .int .i64 0, .int .i64 0, .slice none 0 0] 25)) v1.heap.size 25 (faA 0 0 0 0 (.slice none 0 0)) := Blk.new _ _ _
                    have gea : Hd (w14.heap.size ≤ v1.heap.size) := ⟨B4.size⟩
                    have b6 : Below v1.heap.size v1 (v1.alloc (.cells #[.int .u64 0, .int .i64 0, .int .i64 0, .int .i64 0, .slice none 0 0] 25)) := alloc_below _ _
                    have B5 := B4.trans (b6.mono B4.size)
                    replace K1 := K1.trans (Kept.of_below b6 _)
                    refine hK.out _ _ ⟨B5, fun _ => trivial⟩ ?_
                    clear hK K b6 B4
                    have B4 := B5
                    clear B5
                    generalize v1.alloc _ = v2 at *
                    obtain ⟨ga, hga⟩ : ∃ ga, ga = v1.heap.size := ⟨_, rfl⟩
                    rw [← hga] at NA gea ⊢
                    obtain ⟨⟨r0, r1, r2, r3, r4⟩, f0, f1, f2, f3, f4⟩ := NA.fair
                    obtain ⟨q1, q2⟩ := fair_set NA y.r y.g y.n y.o (.slice a6 y.F.length c6)
                    have K2 := K1.then q2 (fun j hj e => by omega)
                    clear hga
                    have B6 := B4.trans (q2.below B4.size (fun j e => by have := gea.out; omega))
                    have OC2 := OC.step (T := (fun j => j = gf ∨ j = gg)) K2 (fun j _ e => .inl e)
                    refine AnyG.ready (rs := [16]) (by kernel_rfl) (by simp) ?_
                    refine AllG.cons rfl (fun K hK => ?_) AllG.nil
                    go_simp
                    refine hK.out _ _ ⟨B6, fun _ => trivial⟩ ?_
                    clear hK K r0 r1 r2 r3 r4 f0 f1 f2 f3 f4
                    refine .tq 17 18 B6 ?_; simp only [oqA, oqB, oqC]
                    refine .tq 18 19 B6 ?_; simp only [oqA, oqB, oqC]
                    refine AnyG.done (by kernel_rfl) ?_ _
                    have HT : Hd (JnB w14 (fun j => j = gf ∨ j = gg) y kk ee (.pointer (some ⟨ga, 0, none⟩)) (.int .i64 kk) (.int .i64 ee) _) := ⟨⟨ga, a6, c6, ⟨rfl, rfl, rfl⟩, gea.out, q1, OC2, B6⟩⟩
                    clear NA OC K1 K2 q1 q2 B4 B6 OC2 gea
                    go_wp2_with fail
                    go_meet
                    exact HT.out
                · skip
                  go_simp
                  have NA : Blk (v0.alloc (.cells #[.int .u64 0, .int .i64 0, .int .i64 0, .int .i64 0, .slice none 0 0] 25)) v0.heap.size 25 (faA 0 0 0 0 (.slice none 0 0)) := Blk.new _ _ _
                  have gea : Hd (w14.heap.size ≤ v0.heap.size) := ⟨B4.size⟩
                  have b6 : Below v0.heap.size v0 (v0.alloc (.cells #[.int .u64 0, .int .i64 0, .int .i64 0, .int .i64 0, .slice none 0 0] 25)) := alloc_below _ _
                  have B5 := B4.trans (b6.mono B4.size)
                  refine hK.out _ _ ⟨B5, fun _ => trivial⟩ ?_
                  clear hK K b6 B4
                  have B4 := B5
                  clear B5
                  generalize v0.alloc _ = v1 at *
                  generalize v0.heap.size = ga at *
                  refine AnyG.ready (rs := [10]) (by kernel_rfl) (by simp) ?_
                  refine AllG.cons rfl (fun K hK => ?_) (AllG.nil)
                  · skip
                    go_simp
                    refine (CT.out v1 B4).mono ?_
                    rintro e v2 ⟨a6, c6, rfl, OC, b6⟩
                    have B5 : Below w14.heap.size w14 v2 := B4.trans (b6.mono B4.size)
                    have hga : Hd (ga < v1.heap.size) := ⟨NA.lt⟩
                    replace NA := NA.kept (Kept.of_below b6 (fun _ => False)) id
                    have K1 : Kept (fun j => (j = gf ∨ j = gg) ∨ (w14.heap.size ≤ j ∧ j < v1.heap.size)) v2 v2 := Kept.refl _ _
                    refine hK.out _ _ ⟨B5, fun _ => trivial⟩ ?_
                    clear hK K b6 B4
                    have B4 := B5
                    clear B5
                    refine .tq 11 115 B4 ?_; simp only [oqA, oqB, oqC]
                    refine .tq 12 127 B4 ?_; simp only [oqA, oqB, oqC]
                    refine .tq 13 128 B4 ?_; simp only [oqA, oqB, oqC]
                    refine .tq 14 129 B4 ?_; simp only [oqA, oqB, oqC]
                    obtain ⟨⟨r0, r1, r2, r3, r4⟩, f0, f1, f2, f3, f4⟩ := NA.fair
                    obtain ⟨q1, q2⟩ := fair_set NA y.r y.g y.n y.o (.slice a6 y.F.length c6)
                    have K2 := K1.trans (q2.mono (fun j _ e => .inr ⟨by have := gea.out; omega, by have := hga.out; omega⟩))
                    have B6 := B4.trans (q2.below B4.size (fun j e => by have := gea.out; omega))
                    have OC2 := OC.step (T := (fun j => j = gf ∨ j = gg)) K2 (fun j _ e => .inl e)
                    refine AnyG.ready (rs := [16]) (by kernel_rfl) (by simp) ?_
                    refine AllG.cons rfl (fun K hK => ?_) AllG.nil
                    go_simp
                    refine hK.out _ _ ⟨B6, fun _ => trivial⟩ ?_
                    clear hK K r0 r1 r2 r3 r4 f0 f1 f2 f3 f4
                    refine .tq 17 18 B6 ?_; simp only [oqA, oqB, oqC]
                    refine .tq 18 19 B6 ?_; simp only [oqA, oqB, oqC]
                    refine AnyG.done (by kernel_rfl) ?_ _
                    have HT : Hd (JnB w14 (fun j => j = gf ∨ j = gg) y kk ee (.pointer (some ⟨ga, 0, none⟩)) (.int .i64 kk) (.int .i64 ee) _) := ⟨⟨ga, a6, c6, ⟨rfl, rfl, rfl⟩, gea.out, q1, OC2, B6⟩⟩
                    clear NA OC K1 K2 q1 q2 B4 B6 OC2 gea
                    go_wp2_with fail
                    go_meet
                    exact HT.out
              case rest =>
                obtain ⟨w15, rfl⟩ : ∃ w15, w15 = wc := ⟨_, rfl⟩
                obtain ⟨q1, a5, c5, ⟨rfl, rfl, rfl⟩, hq1, N15, S15, B15⟩ := hcut.ex
                clear hcut HY CT
                have H15 : Hd (PF w w15 gf gg x ∧ Below w14.heap.size w14 w15 ∧ Blk w15 q1 25 (faA y.r y.g y.n y.o (.slice a5 y.F.length c5)) ∧ StR (fun j => j = gf ∨ j = gg) w15 a5 c5 y.F ∧ Blk w15 ob 54 #[.int .i64 dd, .slice ha hn' hc', .int .i64 t0, .int .i64 t1, .int .i64 t2, .int .i64 t3, .int .i64 t4, .int .i64 op] ∧ (q1 ≠ gf ∧ q1 ≠ gg)) := ⟨H14.out.1.carry B15, B15, N15, S15, H14.out.2.1.kept (Kept.of_below B15 (fun _ => False)) (fun h => h), by have := H14.out.1.hi; have := H14.out.1.lt; omega⟩
                clear N15 S15 B15 hq1
                go_upto_region 25 with fail
                obtain ⟨a4, c4, k4, r4⟩ := H15.out.1.g
                have HY : Hd (∀ Y, Below w15.heap.size w15 Y → (Y.cell? ⟨gg, 0, none⟩ = some (.int .u64 x.r) ∧ Y.cell? ⟨gg, 1, none⟩ = some (.int .i64 x.g) ∧ Y.cell? ⟨gg, 2, none⟩ = some (.int .i64 x.n) ∧ Y.cell? ⟨gg, 3, none⟩ = some (.int .i64 x.o) ∧ Y.cell? ⟨gg, 4, none⟩ = some (.slice a4 x.F.length c4)) ∧ (Y.cell? ⟨ob, 0, none⟩ = some (.int .i64 dd) ∧ Y.cell? ⟨ob, 1, none⟩ = some (.slice ha hn' hc') ∧ Y.cell? ⟨ob, 2, none⟩ = some (.int .i64 t0) ∧ Y.cell? ⟨ob, 3, none⟩ = some (.int .i64 t1) ∧ Y.cell? ⟨ob, 4, none⟩ = some (.int .i64 t2) ∧ Y.cell? ⟨ob, 5, none⟩ = some (.int .i64 t3) ∧ Y.cell? ⟨ob, 6, none⟩ = some (.int .i64 t4) ∧ Y.cell? ⟨ob, 7, none⟩ = some (.int .i64 op))) := ⟨fun Y q => ⟨(k4.kept (Kept.of_below q (fun _ => False)) (fun h => h)).fair.1, (H15.out.2.2.2.2.1.kept (Kept.of_below q (fun _ => False)) (fun h => h)).sc⟩⟩
                have CT : Hd (∀ Y, Below w15.heap.size w15 Y → Calls Try.prog 20 #[.agg #[.int .u64 x.r, .int .i64 x.g, .int .i64 x.n, .int .i64 x.o, .slice a4 x.F.length c4], .slice ha nh hc', .agg #[.int .i64 t0, .int .i64 t1, .int .i64 t2, .int .i64 t3, .int .i64 t4]] Y fun e w' => ∃ a' c', e = .returned (.tuple #[.agg #[.int .u64 y.r, .int .i64 y.g, .int .i64 y.n, .int .i64 y.o, .slice a' y.F.length c'], .int .i64 kk, .int .i64 ee]) ∧ StR (fun j => (j = gf ∨ j = gg) ∨ (w15.heap.size ≤ j ∧ j < Y.heap.size)) w' a' c' y.F ∧ Below Y.heap.size Y w') := ⟨fun Y q => (CJ.out w15.heap.size Y a4 c4 q.size (r4.step (Kept.of_below q _) (fun j hj e => e.elim (fun e => e) (fun e => by omega))) (H15.out.1.carry q) (H15.out.2.1.trans (q.mono H15.out.2.1.size))).2⟩
                clear k4 r4 CJ
                go_cut [20, 21, 22] from 130 to 144 (fun s20 s21 s22 wx => JnB w15 (fun j => j = gf ∨ j = gg) y kk ee s20 s21 s22 wx)
                case first =>
                  have B4 : Below w15.heap.size w15 w15.drew := (Below.refl _ _).drew
                  refine AnyG.start (T := fun Y => Below w15.heap.size w15 Y) (U := fun _ => True) (j0 := 100) (by kernel_rfl) ?_
                  generalize w15.drew = v0 at *
                  refine .tq 0 131 B4 ?_ (hy := fun w hSw => by have s := (HY.out w hSw).1; go_simp; rfl); simp only [oqA, oqB, oqC]
                  refine .tq 1 132 B4 ?_; simp only [oqA, oqB, oqC]
                  refine .tq 2 133 B4 ?_ (hy := fun w hSw => by have s := (HY.out w hSw).2; go_simp; rfl); simp only [oqA, oqB, oqC]
                  refine .tq 3 134 B4 ?_; simp only [oqA, oqB, oqC]
                  refine .tq 4 135 B4 ?_ (hy := fun w hSw => by have s := (HY.out w hSw).2; go_simp; rfl); simp only [oqA, oqB, oqC]
                  refine .tq 5 136 B4 ?_; simp only [oqA, oqB, oqC]
                  refine .tq (v := .int .i64 nh) 6 137 B4 ?_ (hy := fun w hSw => by go_simp; first | done | rfl | rw [hnh]); simp only [oqA, oqB, oqC]
                  refine .tq (v := .slice ha nh hc') 7 138 B4 ?_ (hy := fun w hSw => by go_simp; first | done | rfl | trace_state); simp only [oqA, oqB, oqC]
                  refine .tq 8 139 B4 ?_; simp only [oqA, oqB, oqC]
                  refine .tq 9 140 B4 ?_ (hy := fun w hSw => by have s := (HY.out w hSw).2; go_simp; rfl); simp only [oqA, oqB, oqC]
                  refine AnyG.ready (rs := [10, 15]) (by kernel_rfl) (by simp) ?_
                  refine AllG.cons rfl (fun K hK => ?_) (AllG.cons rfl (fun K hK => ?_) (AllG.nil))
                  · skip
                    go_simp
                    refine (CT.out v0 B4).mono ?_
                    rintro e v1 ⟨a6, c6, rfl, OC, b6⟩
                    have B5 : Below w15.heap.size w15 v1 := B4.trans (b6.mono B4.size)
                    have K1 : Kept (fun j => (j = gf ∨ j = gg) ∨ (w15.heap.size ≤ j ∧ j < v0.heap.size)) v1 v1 := Kept.refl _ _
                    refine hK.out _ _ ⟨B5, fun _ => trivial⟩ ?_
                    clear hK K b6 B4
                    have B4 := B5
                    clear B5
                    refine .tq 11 130 B4 ?_; simp only [oqA, oqB, oqC]
                    refine .tq 12 142 B4 ?_; simp only [oqA, oqB, oqC]
                    refine .tq 13 143 B4 ?_; simp only [oqA, oqB, oqC]
                    refine .tq 14 144 B4 ?_; simp only [oqA, oqB, oqC]
                    refine AnyG.ready (rs := [15]) (by kernel_rfl) (by simp) ?_
                    refine AllG.cons rfl (fun K hK => ?_) (AllG.nil)
                    · skip
                      go_simp
                      have NA : Blk (v1.alloc (.cells #[.int .u64 0, .int .i64 0, .int .i64 0, .int .i64 0, .slice none 0 0] 25)) v1.heap.size 25 (faA 0 0 0 0 (.slice none 0 0)) := Blk.new _ _ _
                      have gea : Hd (w15.heap.size ≤ v1.heap.size) := ⟨B4.size⟩
                      have b6 : Below v1.heap.size v1 (v1.alloc (.cells #[.int .u64 0, .int .i64 0, .int .i64 0, .int .i64 0, .slice none 0 0] 25)) := alloc_below _ _
                      have B5 := B4.trans (b6.mono B4.size)
                      replace K1 := K1.trans (Kept.of_below b6 _)
                      refine hK.out _ _ ⟨B5, fun _ => trivial⟩ ?_
                      clear hK K b6 B4
                      have B4 := B5
                      clear B5
                      generalize v1.alloc _ = v2 at *
                      obtain ⟨ga, hga⟩ : ∃ ga, ga = v1.heap.size := ⟨_, rfl⟩
                      rw [← hga] at NA gea ⊢
                      obtain ⟨⟨r0, r1, r2, r3, r4⟩, f0, f1, f2, f3, f4⟩ := NA.fair
                      obtain ⟨q1, q2⟩ := fair_set NA y.r y.g y.n y.o (.slice a6 y.F.length c6)
                      have K2 := K1.then q2 (fun j hj e => by omega)
                      clear hga
                      have B6 := B4.trans (q2.below B4.size (fun j e => by have := gea.out; omega))
                      have OC2 := OC.step (T := (fun j => j = gf ∨ j = gg)) K2 (fun j _ e => .inl e)
                      refine AnyG.ready (rs := [16]) (by kernel_rfl) (by simp) ?_
                      refine AllG.cons rfl (fun K hK => ?_) AllG.nil
                      go_simp
                      refine hK.out _ _ ⟨B6, fun _ => trivial⟩ ?_
                      clear hK K r0 r1 r2 r3 r4 f0 f1 f2 f3 f4
                      refine .tq 17 21 B6 ?_; simp only [oqA, oqB, oqC]
                      refine .tq 18 22 B6 ?_; simp only [oqA, oqB, oqC]
                      refine AnyG.done (by kernel_rfl) ?_ _
                      have HT : Hd (JnB w15 (fun j => j = gf ∨ j = gg) y kk ee (.pointer (some ⟨ga, 0, none⟩)) (.int .i64 kk) (.int .i64 ee) _) := ⟨⟨ga, a6, c6, ⟨rfl, rfl, rfl⟩, gea.out, q1, OC2, B6⟩⟩
                      clear NA OC K1 K2 q1 q2 B4 B6 OC2 gea
                      go_wp2_with fail
                      go_meet
                      exact HT.out
                  · skip
                    go_simp
                    have NA : Blk (v0.alloc (.cells #[.int .u64 0, .int .i64 0, .int .i64 0, .int .i64 0, .slice none 0 0] 25)) v0.heap.size 25 (faA 0 0 0 0 (.slice none 0 0)) := Blk.new _ _ _
                    have gea : Hd (w15.heap.size ≤ v0.heap.size) := ⟨B4.size⟩
                    have b6 : Below v0.heap.size v0 (v0.alloc (.cells #[.int .u64 0, .int .i64 0, .int .i64 0, .int .i64 0, .slice none 0 0] 25)) := alloc_below _ _
                    have B5 := B4.trans (b6.mono B4.size)
                    refine hK.out _ _ ⟨B5, fun _ => trivial⟩ ?_
                    clear hK K b6 B4
                    have B4 := B5
                    clear B5
                    generalize v0.alloc _ = v1 at *
                    generalize v0.heap.size = ga at *
                    refine AnyG.ready (rs := [10]) (by kernel_rfl) (by simp) ?_
                    refine AllG.cons rfl (fun K hK => ?_) (AllG.nil)
                    · skip
                      go_simp
                      refine (CT.out v1 B4).mono ?_
                      rintro e v2 ⟨a6, c6, rfl, OC, b6⟩
                      have B5 : Below w15.heap.size w15 v2 := B4.trans (b6.mono B4.size)
                      have hga : Hd (ga < v1.heap.size) := ⟨NA.lt⟩
                      replace NA := NA.kept (Kept.of_below b6 (fun _ => False)) id
                      have K1 : Kept (fun j => (j = gf ∨ j = gg) ∨ (w15.heap.size ≤ j ∧ j < v1.heap.size)) v2 v2 := Kept.refl _ _
                      refine hK.out _ _ ⟨B5, fun _ => trivial⟩ ?_
                      clear hK K b6 B4
                      have B4 := B5
                      clear B5
                      refine .tq 11 130 B4 ?_; simp only [oqA, oqB, oqC]
                      refine .tq 12 142 B4 ?_; simp only [oqA, oqB, oqC]
                      refine .tq 13 143 B4 ?_; simp only [oqA, oqB, oqC]
                      refine .tq 14 144 B4 ?_; simp only [oqA, oqB, oqC]
                      obtain ⟨⟨r0, r1, r2, r3, r4⟩, f0, f1, f2, f3, f4⟩ := NA.fair
                      obtain ⟨q1, q2⟩ := fair_set NA y.r y.g y.n y.o (.slice a6 y.F.length c6)
                      have K2 := K1.trans (q2.mono (fun j _ e => .inr ⟨by have := gea.out; omega, by have := hga.out; omega⟩))
                      have B6 := B4.trans (q2.below B4.size (fun j e => by have := gea.out; omega))
                      have OC2 := OC.step (T := (fun j => j = gf ∨ j = gg)) K2 (fun j _ e => .inl e)
                      refine AnyG.ready (rs := [16]) (by kernel_rfl) (by simp) ?_
                      refine AllG.cons rfl (fun K hK => ?_) AllG.nil
                      go_simp
                      refine hK.out _ _ ⟨B6, fun _ => trivial⟩ ?_
                      clear hK K r0 r1 r2 r3 r4 f0 f1 f2 f3 f4
                      refine .tq 17 21 B6 ?_; simp only [oqA, oqB, oqC]
                      refine .tq 18 22 B6 ?_; simp only [oqA, oqB, oqC]
                      refine AnyG.done (by kernel_rfl) ?_ _
                      have HT : Hd (JnB w15 (fun j => j = gf ∨ j = gg) y kk ee (.pointer (some ⟨ga, 0, none⟩)) (.int .i64 kk) (.int .i64 ee) _) := ⟨⟨ga, a6, c6, ⟨rfl, rfl, rfl⟩, gea.out, q1, OC2, B6⟩⟩
                      clear NA OC K1 K2 q1 q2 B4 B6 OC2 gea
                      go_wp2_with fail
                      go_meet
                      exact HT.out
                case rest =>
                  obtain ⟨wb, rfl⟩ : ∃ wb, wb = wc := ⟨_, rfl⟩
                  obtain ⟨q2, a6, c6, ⟨rfl, rfl, rfl⟩, hq2, N16, S16, B16⟩ := hcut.ex
                  clear hcut HY CT
                  have HB : Hd (PF w wb gf gg x ∧ Below w14.heap.size w14 wb ∧ Blk wb q1 25 (faA y.r y.g y.n y.o (.slice a5 y.F.length c5)) ∧ StR (fun j => j = gf ∨ j = gg) wb a5 c5 y.F ∧ Blk wb q2 25 (faA y.r y.g y.n y.o (.slice a6 y.F.length c6)) ∧ StR (fun j => j = gf ∨ j = gg) wb a6 c6 y.F ∧ (q1 ≠ gf ∧ q1 ≠ gg ∧ q2 ≠ gf ∧ q2 ≠ gg)) := ⟨H15.out.1.carry B16, H15.out.2.1.trans (B16.mono H15.out.2.1.size), H15.out.2.2.1.kept (Kept.of_below B16 (fun _ => False)) (fun h => h), H15.out.2.2.2.1.step (Kept.of_below B16 _) (fun _ _ e => e), N16, S16, by have := H15.out.2.2.2.2.2; have := H15.out.1.hi; have := H15.out.1.lt; omega⟩
                  clear H15 N16 S16 B16 hq2 hnh hnh2 hnh3 hcap hcap2 hcapI hnh0 HNH
                  by_cases hz : ee = 0
                  · skip
                    have hz' : (ee == 0) = true := by simp [hz]
                    have IY : Hd (IvP (k + 1) y) := ⟨IY0.out hz⟩
                    clear hz IY0
                    go_upto_region 29 with fail
                    refine AnyG.start (T := fun Y => Kept (fun j => j = gf ∨ j = gg) wb.drew Y) (U := fun _ => True) (j0 := 100) (by kernel_rfl) ?_
                    obtain ⟨w0, hw0⟩ : ∃ w0, w0 = wb.drew := ⟨_, rfl⟩
                    have BD : Below wb.heap.size wb w0 := by rw [hw0]; exact (Below.refl _ _).drew
                    rw [← hw0]
                    clear hw0
                    obtain ⟨W1, W2, eW1, eW2, ⟨u3, k3⟩, ⟨u4, k4⟩, m1, m2, PP⟩ := (HB.out.1.carry BD).put (y := y) (HB.out.2.2.2.1.step (Kept.of_below BD _) (fun _ _ e => e)) (HB.out.2.2.2.2.2.1.step (Kept.of_below BD _) (fun _ _ e => e))
                    have PZ0 : Hd (PF w W2 gf gg y ∧ Kept (fun j => j = gf ∨ j = gg) w14 W2) := ⟨PP, (Kept.of_below (HB.out.2.1.trans (BD.mono HB.out.2.1.size)) _).trans m2⟩
                    have HE1 := Hd.mk eW1
                    have HE2 := Hd.mk eW2
                    clear eW1 eW2
                    have NE := HB.out.2.2.2.2.2.2
                    have X0 : Hd (∀ Y, Kept (fun j => j = gf ∨ j = gg) w0 Y → Blk Y q1 25 (faA y.r y.g y.n y.o (.slice a5 y.F.length c5)) ∧ Blk Y q2 25 (faA y.r y.g y.n y.o (.slice a6 y.F.length c6))) := ⟨fun Y q => ⟨(HB.out.2.2.1.kept (Kept.of_below BD (fun _ => False)) (fun h => h)).kept q (by omega), (HB.out.2.2.2.2.1.kept (Kept.of_below BD (fun _ => False)) (fun h => h)).kept q (by omega)⟩⟩
                    have R0 : Kept (fun j => j = gf ∨ j = gg) w0 w0 := Kept.refl _ _
                    clear NE BD HB PP
                    refine .tq 0 155 R0 ?_ (hy := fun w hSw => by have s := (X0.out w hSw).1.fair.1; go_simp; rfl); simp only [oqA, oqB, oqC]
                    refine .tq 1 156 R0 ?_ (hy := fun w hSw => by have s := (X0.out w hSw).2.fair.1; go_simp; rfl); simp only [oqA, oqB, oqC]
                    obtain ⟨⟨r0, r1, r2, r3, r4⟩, f0, f1, f2, f3, f4⟩ := k3.fair
                    refine AnyG.ready (rs := [2]) (by kernel_rfl) (by simp) ?_
                    refine AllG.cons rfl (fun K hK => ?_) AllG.nil
                    go_simp
                    rw [← HE1.out]
                    refine hK.out _ _ ⟨m1, fun _ => trivial⟩ ?_
                    clear hK K r0 r1 r2 r3 r4 f0 f1 f2 f3 f4 k3
                    obtain ⟨⟨r0, r1, r2, r3, r4⟩, f0, f1, f2, f3, f4⟩ := k4.fair
                    refine AnyG.ready (rs := [3]) (by kernel_rfl) (by simp) ?_
                    refine AllG.cons rfl (fun K hK => ?_) AllG.nil
                    go_simp
                    rw [← HE2.out]
                    refine hK.out _ _ ⟨m2, fun _ => trivial⟩ ?_
                    clear hK K r0 r1 r2 r3 r4 f0 f1 f2 f3 f4 k4
                    refine AnyG.done (by kernel_rfl) ?_ _
                    obtain ⟨wz, hwz⟩ : ∃ wz, wz = W2 := ⟨_, rfl⟩
                    have PZ : Hd (PF w wz gf gg y ∧ Kept (fun j => j = gf ∨ j = gg) w14 wz) := ⟨by rw [hwz]; exact PZ0.out⟩
                    rw [← hwz]
                    clear hwz PZ0 X0 R0 m1 m2 HE1 HE2
                    obtain ⟨a3, c3, k3, r3⟩ := PZ.out.1.f
                    obtain ⟨a4, c4, k4, r4⟩ := PZ.out.1.g
                    obtain ⟨⟨x0, x1, x2, x3, x4⟩, -⟩ := k3.fair
                    obtain ⟨⟨y0, y1, y2, y3, y4⟩, -⟩ := k4.fair
                    have CC := same22_ok y.r y.g y.n y.o a3 a4 c3 c4 y.F wz (r3.read (Kept.refl _ _)) (r4.read (Kept.refl _ _)) IY.out.few
                    clear k3 k4 r3 r4
                    go_upto_region 42 with fail
                    go_wp2_with fail
                    go_at_call 16
                    refine CC.mono ?_
                    rintro e v1 ⟨rfl, b1⟩
                    clear CC x0 x1 x2 x3 x4 y0 y1 y2 y3 y4
                    have P1 : Hd (PF w v1 gf gg y) := ⟨PZ.out.1.carry b1⟩
                    obtain ⟨k3, k4, r3, r4⟩ := TL.out v1 (PZ.out.2.trans (Kept.of_below b1 _))
                    obtain ⟨⟨x0, x1, x2, x3, x4⟩, -⟩ := k3.fair
                    obtain ⟨⟨y0, y1, y2, y3, y4⟩, -⟩ := k4.fair
                    have CC := same22_ok x.r x.g x.n x.o ao aw co cw x.F v1 r4 r3 IV.out.few
                    clear k3 k4 r3 r4 b1 PZ TL
                    go_wp2_with fail
                    go_at_call 16
                    refine CC.mono ?_
                    rintro e v2 ⟨rfl, b2⟩
                    clear CC x0 x1 x2 x3 x4 y0 y1 y2 y3 y4
                    have PE : Hd (PF w v2 gf gg y) := ⟨P1.out.carry b2⟩
                    clear P1 b2
                    go_wp2_with fail
                    go_roundw
                    case rel => exact ⟨k + 1, y, by omega, by omega, by go_num, IY.out, PE.out⟩
                    case measure => simp [intOf]; omega
                  · skip
                    have hz' : (ee == 0) = false := by simp [hz]
                    clear hz IY0
                    obtain ⟨wz, hwz⟩ : ∃ wz, wz = wb := ⟨_, rfl⟩
                    have PZ : Hd (PF w wz gf gg x ∧ Kept (fun j => j = gf ∨ j = gg) w14 wz) := ⟨by rw [hwz]; exact ⟨HB.out.1, Kept.of_below HB.out.2.1 _⟩⟩
                    have IY : Hd (IvP (k + 1) x) := ⟨IV.out.more⟩
                    rw [← hwz]
                    clear hwz HB
                    obtain ⟨a3, c3, k3, r3⟩ := PZ.out.1.f
                    obtain ⟨a4, c4, k4, r4⟩ := PZ.out.1.g
                    obtain ⟨⟨x0, x1, x2, x3, x4⟩, -⟩ := k3.fair
                    obtain ⟨⟨y0, y1, y2, y3, y4⟩, -⟩ := k4.fair
                    have CC := same22_ok x.r x.g x.n x.o a3 a4 c3 c4 x.F wz (r3.read (Kept.refl _ _)) (r4.read (Kept.refl _ _)) IY.out.few
                    clear k3 k4 r3 r4
                    go_upto_region 42 with fail
                    go_wp2_with fail
                    go_at_call 16
                    refine CC.mono ?_
                    rintro e v1 ⟨rfl, b1⟩
                    clear CC x0 x1 x2 x3 x4 y0 y1 y2 y3 y4
                    have P1 : Hd (PF w v1 gf gg x) := ⟨PZ.out.1.carry b1⟩
                    obtain ⟨k3, k4, r3, r4⟩ := TL.out v1 (PZ.out.2.trans (Kept.of_below b1 _))
                    obtain ⟨⟨x0, x1, x2, x3, x4⟩, -⟩ := k3.fair
                    obtain ⟨⟨y0, y1, y2, y3, y4⟩, -⟩ := k4.fair
                    have CC := same22_ok x.r x.g x.n x.o ao aw co cw x.F v1 r4 r3 IV.out.few
                    clear k3 k4 r3 r4 b1 PZ TL
                    go_wp2_with fail
                    go_at_call 16
                    refine CC.mono ?_
                    rintro e v2 ⟨rfl, b2⟩
                    clear CC x0 x1 x2 x3 x4 y0 y1 y2 y3 y4
                    have PE : Hd (PF w v2 gf gg x) := ⟨P1.out.carry b2⟩
                    clear P1 b2
                    go_wp2_with fail
                    go_roundw
                    case rel => exact ⟨k + 1, x, by omega, by omega, by go_num, IY.out, PE.out⟩
                    case measure => simp [intOf]; omega
          · as_aux_lemma =>
              obtain ⟨nh, hnh, hnh2, hnh3⟩ : ∃ nh : Nat, min (hn' : Int) 20 = (nh : Int) ∧ nh ≤ hn' ∧ nh ≤ 20 := ⟨min hn' 20, by omega, by omega, by omega⟩
              obtain ⟨kc, hkc⟩ : ∃ kc, kc = chF x.F x.o hf' nh := ⟨_, rfl⟩
              obtain ⟨y, hy⟩ : ∃ y, y = jnX x kc ⟨t0, t1, t2, t3, t4⟩ := ⟨_, rfl⟩
              obtain ⟨kk, hkk⟩ : ∃ kk, kk = jnK x kc := ⟨_, rfl⟩
              obtain ⟨ee, hee⟩ : ∃ ee, ee = jnE x kc := ⟨_, rfl⟩
              have IY0 : Hd (ee = 0 → IvP (k + 1) y) := ⟨fun e => by rw [hy]; exact IV.out.join (by omega) (by rw [← hee]; exact e) _⟩
              have hcap : nh ≤ hc' ∧ hn' ≤ hc' := by have := H14.out.2.2.2.2.2.2.2.2.2.1; simp only at this; omega
              have HSK : Hd (ScOk w14 ⟨dd, ha, hn', hc', hf', ⟨t0, t1, t2, t3, t4⟩, op⟩) := ⟨H14.out.2.2.2.2.2.2.2⟩
              have CJ : Hd (∀ u Y a c, u ≤ Y.heap.size → StR (fun j => (j = gf ∨ j = gg) ∨ (u ≤ j ∧ j < Y.heap.size)) Y a c x.F → PF w Y gf gg x → Below w14.heap.size w14 Y → (Calls Try.prog 19 #[.agg #[.int .u64 x.r, .int .i64 x.g, .int .i64 x.n, .int .i64 x.o, .slice a x.F.length c], .slice ha nh hc', .agg #[.int .i64 t0, .int .i64 t1, .int .i64 t2, .int .i64 t3, .int .i64 t4]] Y fun e w' => ∃ a' c', e = .returned (.tuple #[.agg #[.int .u64 y.r, .int .i64 y.g, .int .i64 y.n, .int .i64 y.o, .slice a' y.F.length c'], .int .i64 kk, .int .i64 ee]) ∧ StR (fun j => (j = gf ∨ j = gg) ∨ (u ≤ j ∧ j < Y.heap.size)) w' a' c' y.F ∧ Below Y.heap.size Y w') ∧ (Calls Try.prog 20 #[.agg #[.int .u64 x.r, .int .i64 x.g, .int .i64 x.n, .int .i64 x.o, .slice a x.F.length c], .slice ha nh hc', .agg #[.int .i64 t0, .int .i64 t1, .int .i64 t2, .int .i64 t3, .int .i64 t4]] Y fun e w' => ∃ a' c', e = .returned (.tuple #[.agg #[.int .u64 y.r, .int .i64 y.g, .int .i64 y.n, .int .i64 y.o, .slice a' y.F.length c'], .int .i64 kk, .int .i64 ee]) ∧ StR (fun j => (j = gf ∨ j = gg) ∨ (u ≤ j ∧ j < Y.heap.size)) w' a' c' y.F ∧ Below Y.heap.size Y w')) := ⟨fun u Y a c q0 q1 q2 q3 => by
                have hh : HnR Y ha nh hf' := (HSK.out.1.carry q3).less hnh2
                have A := join_st x a c ha nh hc' hf' ⟨t0, t1, t2, t3, t4⟩ Y (fun j => (j = gf ∨ j = gg) ∨ (u ≤ j ∧ j < Y.heap.size)) q1 (fun j e => e.elim (fun e => q2.mv j e) (fun e => e.2)) IV.out.few hh (by omega)
                have B := rjoin_st x a c ha nh hc' hf' ⟨t0, t1, t2, t3, t4⟩ Y (fun j => (j = gf ∨ j = gg) ∨ (u ≤ j ∧ j < Y.heap.size)) q1 (fun j e => e.elim (fun e => q2.mv j e) (fun e => e.2)) IV.out.few hh (by omega)
                rw [← hkc, ← hy, ← hkk, ← hee] at A B
                refine ⟨A.mono ?_, B.mono ?_⟩
                · rintro e w' ⟨⟨v, rfl, a', c', rfl, s'⟩, b'⟩
                  exact ⟨a', c', rfl, s', b'⟩
                · rintro e w' ⟨⟨v, rfl, a', c', rfl, s'⟩, b'⟩
                  exact ⟨a', c', rfl, s', b'⟩⟩
              clear hkc hy hkk hee HSK
              obtain ⟨hcap, hcap2⟩ := hcap
              have hcapI : (nh : Int) ≤ (hc' : Int) := by omega
              have hnh0 : (0 : Int) ≤ (nh : Int) := by omega
              have HNH : Hd (nh ≤ hn') := ⟨hnh2⟩
              go_upto_region 24 with fail
              clear z0 z1 z2 z3 z4 z5 z6 z7
              obtain ⟨a3, c3, k3, r3⟩ := H14.out.1.f
              have HY : Hd (∀ Y, Below w14.heap.size w14 Y → (Y.cell? ⟨gf, 0, none⟩ = some (.int .u64 x.r) ∧ Y.cell? ⟨gf, 1, none⟩ = some (.int .i64 x.g) ∧ Y.cell? ⟨gf, 2, none⟩ = some (.int .i64 x.n) ∧ Y.cell? ⟨gf, 3, none⟩ = some (.int .i64 x.o) ∧ Y.cell? ⟨gf, 4, none⟩ = some (.slice a3 x.F.length c3)) ∧ (Y.cell? ⟨ob, 0, none⟩ = some (.int .i64 dd) ∧ Y.cell? ⟨ob, 1, none⟩ = some (.slice ha hn' hc') ∧ Y.cell? ⟨ob, 2, none⟩ = some (.int .i64 t0) ∧ Y.cell? ⟨ob, 3, none⟩ = some (.int .i64 t1) ∧ Y.cell? ⟨ob, 4, none⟩ = some (.int .i64 t2) ∧ Y.cell? ⟨ob, 5, none⟩ = some (.int .i64 t3) ∧ Y.cell? ⟨ob, 6, none⟩ = some (.int .i64 t4) ∧ Y.cell? ⟨ob, 7, none⟩ = some (.int .i64 op))) := ⟨fun Y q => ⟨(k3.kept (Kept.of_below q (fun _ => False)) (fun h => h)).fair.1, (H14.out.2.1.kept (Kept.of_below q (fun _ => False)) (fun h => h)).sc⟩⟩
              have CT : Hd (∀ Y, Below w14.heap.size w14 Y → Calls Try.prog 19 #[.agg #[.int .u64 x.r, .int .i64 x.g, .int .i64 x.n, .int .i64 x.o, .slice a3 x.F.length c3], .slice ha nh hc', .agg #[.int .i64 t0, .int .i64 t1, .int .i64 t2, .int .i64 t3, .int .i64 t4]] Y fun e w' => ∃ a' c', e = .returned (.tuple #[.agg #[.int .u64 y.r, .int .i64 y.g, .int .i64 y.n, .int .i64 y.o, .slice a' y.F.length c'], .int .i64 kk, .int .i64 ee]) ∧ StR (fun j => (j = gf ∨ j = gg) ∨ (w14.heap.size ≤ j ∧ j < Y.heap.size)) w' a' c' y.F ∧ Below Y.heap.size Y w') := ⟨fun Y q => (CJ.out w14.heap.size Y a3 c3 q.size (r3.step (Kept.of_below q _) (fun j hj e => e.elim (fun e => e) (fun e => by omega))) (H14.out.1.carry q) q).1⟩
              clear k3 r3
              go_cut [17, 18, 19] from 115 to 129 (fun s17 s18 s19 wx => JnB w14 (fun j => j = gf ∨ j = gg) y kk ee s17 s18 s19 wx)
              case first =>
                have B4 : Below w14.heap.size w14 w14.drew := (Below.refl _ _).drew
                refine AnyG.start (T := fun Y => Below w14.heap.size w14 Y) (U := fun _ => True) (j0 := 100) (by kernel_rfl) ?_
                generalize w14.drew = v0 at *
                refine .tq 0 116 B4 ?_ (hy := fun w hSw => by have s := (HY.out w hSw).1; go_simp; rfl); simp only [oqA, oqB, oqC]
                refine .tq 1 117 B4 ?_; simp only [oqA, oqB, oqC]
                refine .tq 2 118 B4 ?_ (hy := fun w hSw => by have s := (HY.out w hSw).2; go_simp; rfl); simp only [oqA, oqB, oqC]
                refine .tq 3 119 B4 ?_; simp only [oqA, oqB, oqC]
                refine .tq 4 120 B4 ?_ (hy := fun w hSw => by have s := (HY.out w hSw).2; go_simp; rfl); simp only [oqA, oqB, oqC]
                refine .tq 5 121 B4 ?_; simp only [oqA, oqB, oqC]
                refine .tq (v := .int .i64 nh) 6 122 B4 ?_ (hy := fun w hSw => by go_simp; first | done | rfl | rw [hnh]); simp only [oqA, oqB, oqC]
                refine .tq (v := .slice ha nh hc') 7 123 B4 ?_ (hy := fun w hSw => by go_simp; first | done | rfl | trace_state); simp only [oqA, oqB, oqC]
                refine .tq 8 124 B4 ?_; simp only [oqA, oqB, oqC]
                refine .tq 9 125 B4 ?_ (hy := fun w hSw => by have s := (HY.out w hSw).2; go_simp; rfl); simp only [oqA, oqB, oqC]
                refine AnyG.ready (rs := [10, 15]) (by kernel_rfl) (by simp) ?_
                refine AllG.cons rfl (fun K hK => ?_) (AllG.cons rfl (fun K hK => ?_) (AllG.nil))
                · skip
                  go_simp
                  refine (CT.out v0 B4).mono ?_
                  rintro e v1 ⟨a6, c6, rfl, OC, b6⟩
                  have B5 : Below w14.heap.size w14 v1 := B4.trans (b6.mono B4.size)
                  have K1 : Kept (fun j => (j = gf ∨ j = gg) ∨ (w14.heap.size ≤ j ∧ j < v0.heap.size)) v1 v1 := Kept.refl _ _
                  refine hK.out _ _ ⟨B5, fun _ => trivial⟩ ?_
                  clear hK K b6 B4
                  have B4 := B5
                  clear B5
                  refine .tq 11 115 B4 ?_; simp only [oqA, oqB, oqC]
                  refine .tq 12 127 B4 ?_; simp only [oqA, oqB, oqC]
                  refine .tq 13 128 B4 ?_; simp only [oqA, oqB, oqC]
                  refine .tq 14 129 B4 ?_; simp only [oqA, oqB, oqC]
                  refine AnyG.ready (rs := [15]) (by kernel_rfl) (by simp) ?_
                  refine AllG.cons rfl (fun K hK => ?_) (AllG.nil)
                  · skip
                    go_simp
                    have NA : Blk (v1.alloc (.cells #[.int .u64 0, .int .i64 0, .int .i64 0, .int .i64 0, .slice none 0 0] 25)) v1.heap.size 25 (faA 0 0 0 0 (.slice none 0 0)) := Blk.new _ _ _
                    have gea : Hd (w14.heap.size ≤ v1.heap.size) := ⟨B4.size⟩
                    have b6 : Below v1.heap.size v1 (v1.alloc (.cells #[.int .u64 0, .int .i64 0, .int .i64 0, .int .i64 0, .slice none 0 0] 25)) := alloc_below _ _
                    have B5 := B4.trans (b6.mono B4.size)
                    replace K1 := K1.trans (Kept.of_below b6 _)
                    refine hK.out _ _ ⟨B5, fun _ => trivial⟩ ?_
                    clear hK K b6 B4
                    have B4 := B5
                    clear B5
                    generalize v1.alloc _ = v2 at *
                    obtain ⟨ga, hga⟩ : ∃ ga, ga = v1.heap.size := ⟨_, rfl⟩
                    rw [← hga] at NA gea ⊢
                    obtain ⟨⟨r0, r1, r2, r3, r4⟩, f0, f1, f2, f3, f4⟩ := NA.fair
                    obtain ⟨q1, q2⟩ := fair_set NA y.r y.g y.n y.o (.slice a6 y.F.length c6)
                    have K2 := K1.then q2 (fun j hj e => by omega)
                    clear hga
                    have B6 := B4.trans (q2.below B4.size (fun j e => by have := gea.out; omega))
                    have OC2 := OC.step (T := (fun j => j = gf ∨ j = gg)) K2 (fun j _ e => .inl e)
                    refine AnyG.ready (rs := [16]) (by kernel_rfl) (by simp) ?_
                    refine AllG.cons rfl (fun K hK => ?_) AllG.nil
                    go_simp
                    refine hK.out _ _ ⟨B6, fun _ => trivial⟩ ?_
                    clear hK K r0 r1 r2 r3 r4 f0 f1 f2 f3 f4
                    refine .tq 17 18 B6 ?_; simp only [oqA, oqB, oqC]
                    refine .tq 18 19 B6 ?_; simp only [oqA, oqB, oqC]
                    refine AnyG.done (by kernel_rfl) ?_ _
                    have HT : Hd (JnB w14 (fun j => j = gf ∨ j = gg) y kk ee (.pointer (some ⟨ga, 0, none⟩)) (.int .i64 kk) (.int .i64 ee) _) := ⟨⟨ga, a6, c6, ⟨rfl, rfl, rfl⟩, gea.out, q1, OC2, B6⟩⟩
                    clear NA OC K1 K2 q1 q2 B4 B6 OC2 gea
                    go_wp2_with fail
                    go_meet
                    exact HT.out
                · skip
                  go_simp
                  have NA : Blk (v0.alloc (.cells #[.int .u64 0, .int .i64 0, .int .i64 0, .int .i64 0, .slice none 0 0] 25)) v0.heap.size 25 (faA 0 0 0 0 (.slice none 0 0)) := Blk.new _ _ _
                  have gea : Hd (w14.heap.size ≤ v0.heap.size) := ⟨B4.size⟩
                  have b6 : Below v0.heap.size v0 (v0.alloc (.cells #[.int .u64 0, .int .i64 0, .int .i64 0, .int .i64 0, .slice none 0 0] 25)) := alloc_below _ _
                  have B5 := B4.trans (b6.mono B4.size)
                  refine hK.out _ _ ⟨B5, fun _ => trivial⟩ ?_
                  clear hK K b6 B4
                  have B4 := B5
                  clear B5
                  generalize v0.alloc _ = v1 at *
                  generalize v0.heap.size = ga at *
                  refine AnyG.ready (rs := [10]) (by kernel_rfl) (by simp) ?_
                  refine AllG.cons rfl (fun K hK => ?_) (AllG.nil)
                  · skip
                    go_simp
                    refine (CT.out v1 B4).mono ?_
                    rintro e v2 ⟨a6, c6, rfl, OC, b6⟩
                    have B5 : Below w14.heap.size w14 v2 := B4.trans (b6.mono B4.size)
                    have hga : Hd (ga < v1.heap.size) := ⟨NA.lt⟩
                    replace NA := NA.kept (Kept.of_below b6 (fun _ => False)) id
                    have K1 : Kept (fun j => (j = gf ∨ j = gg) ∨ (w14.heap.size ≤ j ∧ j < v1.heap.size)) v2 v2 := Kept.refl _ _
                    refine hK.out _ _ ⟨B5, fun _ => trivial⟩ ?_
                    clear hK K b6 B4
                    have B4 := B5
                    clear B5
                    refine .tq 11 115 B4 ?_; simp only [oqA, oqB, oqC]
                    refine .tq 12 127 B4 ?_; simp only [oqA, oqB, oqC]
                    refine .tq 13 128 B4 ?_; simp only [oqA, oqB, oqC]
                    refine .tq 14 129 B4 ?_; simp only [oqA, oqB, oqC]
                    obtain ⟨⟨r0, r1, r2, r3, r4⟩, f0, f1, f2, f3, f4⟩ := NA.fair
                    obtain ⟨q1, q2⟩ := fair_set NA y.r y.g y.n y.o (.slice a6 y.F.length c6)
                    have K2 := K1.trans (q2.mono (fun j _ e => .inr ⟨by have := gea.out; omega, by have := hga.out; omega⟩))
                    have B6 := B4.trans (q2.below B4.size (fun j e => by have := gea.out; omega))
                    have OC2 := OC.step (T := (fun j => j = gf ∨ j = gg)) K2 (fun j _ e => .inl e)
                    refine AnyG.ready (rs := [16]) (by kernel_rfl) (by simp) ?_
                    refine AllG.cons rfl (fun K hK => ?_) AllG.nil
                    go_simp
                    refine hK.out _ _ ⟨B6, fun _ => trivial⟩ ?_
                    clear hK K r0 r1 r2 r3 r4 f0 f1 f2 f3 f4
                    refine .tq 17 18 B6 ?_; simp only [oqA, oqB, oqC]
                    refine .tq 18 19 B6 ?_; simp only [oqA, oqB, oqC]
                    refine AnyG.done (by kernel_rfl) ?_ _
                    have HT : Hd (JnB w14 (fun j => j = gf ∨ j = gg) y kk ee (.pointer (some ⟨ga, 0, none⟩)) (.int .i64 kk) (.int .i64 ee) _) := ⟨⟨ga, a6, c6, ⟨rfl, rfl, rfl⟩, gea.out, q1, OC2, B6⟩⟩
                    clear NA OC K1 K2 q1 q2 B4 B6 OC2 gea
                    go_wp2_with fail
                    go_meet
                    exact HT.out
              case rest =>
                obtain ⟨w15, rfl⟩ : ∃ w15, w15 = wc := ⟨_, rfl⟩
                obtain ⟨q1, a5, c5, ⟨rfl, rfl, rfl⟩, hq1, N15, S15, B15⟩ := hcut.ex
                clear hcut HY CT
                have H15 : Hd (PF w w15 gf gg x ∧ Below w14.heap.size w14 w15 ∧ Blk w15 q1 25 (faA y.r y.g y.n y.o (.slice a5 y.F.length c5)) ∧ StR (fun j => j = gf ∨ j = gg) w15 a5 c5 y.F ∧ Blk w15 ob 54 #[.int .i64 dd, .slice ha hn' hc', .int .i64 t0, .int .i64 t1, .int .i64 t2, .int .i64 t3, .int .i64 t4, .int .i64 op] ∧ (q1 ≠ gf ∧ q1 ≠ gg)) := ⟨H14.out.1.carry B15, B15, N15, S15, H14.out.2.1.kept (Kept.of_below B15 (fun _ => False)) (fun h => h), by have := H14.out.1.hi; have := H14.out.1.lt; omega⟩
                clear N15 S15 B15 hq1
                go_upto_region 25 with fail
                obtain ⟨a4, c4, k4, r4⟩ := H15.out.1.g
                have HY : Hd (∀ Y, Below w15.heap.size w15 Y → (Y.cell? ⟨gg, 0, none⟩ = some (.int .u64 x.r) ∧ Y.cell? ⟨gg, 1, none⟩ = some (.int .i64 x.g) ∧ Y.cell? ⟨gg, 2, none⟩ = some (.int .i64 x.n) ∧ Y.cell? ⟨gg, 3, none⟩ = some (.int .i64 x.o) ∧ Y.cell? ⟨gg, 4, none⟩ = some (.slice a4 x.F.length c4)) ∧ (Y.cell? ⟨ob, 0, none⟩ = some (.int .i64 dd) ∧ Y.cell? ⟨ob, 1, none⟩ = some (.slice ha hn' hc') ∧ Y.cell? ⟨ob, 2, none⟩ = some (.int .i64 t0) ∧ Y.cell? ⟨ob, 3, none⟩ = some (.int .i64 t1) ∧ Y.cell? ⟨ob, 4, none⟩ = some (.int .i64 t2) ∧ Y.cell? ⟨ob, 5, none⟩ = some (.int .i64 t3) ∧ Y.cell? ⟨ob, 6, none⟩ = some (.int .i64 t4) ∧ Y.cell? ⟨ob, 7, none⟩ = some (.int .i64 op))) := ⟨fun Y q => ⟨(k4.kept (Kept.of_below q (fun _ => False)) (fun h => h)).fair.1, (H15.out.2.2.2.2.1.kept (Kept.of_below q (fun _ => False)) (fun h => h)).sc⟩⟩
                have CT : Hd (∀ Y, Below w15.heap.size w15 Y → Calls Try.prog 20 #[.agg #[.int .u64 x.r, .int .i64 x.g, .int .i64 x.n, .int .i64 x.o, .slice a4 x.F.length c4], .slice ha nh hc', .agg #[.int .i64 t0, .int .i64 t1, .int .i64 t2, .int .i64 t3, .int .i64 t4]] Y fun e w' => ∃ a' c', e = .returned (.tuple #[.agg #[.int .u64 y.r, .int .i64 y.g, .int .i64 y.n, .int .i64 y.o, .slice a' y.F.length c'], .int .i64 kk, .int .i64 ee]) ∧ StR (fun j => (j = gf ∨ j = gg) ∨ (w15.heap.size ≤ j ∧ j < Y.heap.size)) w' a' c' y.F ∧ Below Y.heap.size Y w') := ⟨fun Y q => (CJ.out w15.heap.size Y a4 c4 q.size (r4.step (Kept.of_below q _) (fun j hj e => e.elim (fun e => e) (fun e => by omega))) (H15.out.1.carry q) (H15.out.2.1.trans (q.mono H15.out.2.1.size))).2⟩
                clear k4 r4 CJ
                go_cut [20, 21, 22] from 130 to 144 (fun s20 s21 s22 wx => JnB w15 (fun j => j = gf ∨ j = gg) y kk ee s20 s21 s22 wx)
                case first =>
                  have B4 : Below w15.heap.size w15 w15.drew := (Below.refl _ _).drew
                  refine AnyG.start (T := fun Y => Below w15.heap.size w15 Y) (U := fun _ => True) (j0 := 100) (by kernel_rfl) ?_
                  generalize w15.drew = v0 at *
                  refine .tq 0 131 B4 ?_ (hy := fun w hSw => by have s := (HY.out w hSw).1; go_simp; rfl); simp only [oqA, oqB, oqC]
                  refine .tq 1 132 B4 ?_; simp only [oqA, oqB, oqC]
                  refine .tq 2 133 B4 ?_ (hy := fun w hSw => by have s := (HY.out w hSw).2; go_simp; rfl); simp only [oqA, oqB, oqC]
                  refine .tq 3 134 B4 ?_; simp only [oqA, oqB, oqC]
                  refine .tq 4 135 B4 ?_ (hy := fun w hSw => by have s := (HY.out w hSw).2; go_simp; rfl); simp only [oqA, oqB, oqC]
                  refine .tq 5 136 B4 ?_; simp only [oqA, oqB, oqC]
                  refine .tq (v := .int .i64 nh) 6 137 B4 ?_ (hy := fun w hSw => by go_simp; first | done | rfl | rw [hnh]); simp only [oqA, oqB, oqC]
                  refine .tq (v := .slice ha nh hc') 7 138 B4 ?_ (hy := fun w hSw => by go_simp; first | done | rfl | trace_state); simp only [oqA, oqB, oqC]
                  refine .tq 8 139 B4 ?_; simp only [oqA, oqB, oqC]
                  refine .tq 9 140 B4 ?_ (hy := fun w hSw => by have s := (HY.out w hSw).2; go_simp; rfl); simp only [oqA, oqB, oqC]
                  refine AnyG.ready (rs := [10, 15]) (by kernel_rfl) (by simp) ?_
                  refine AllG.cons rfl (fun K hK => ?_) (AllG.cons rfl (fun K hK => ?_) (AllG.nil))
                  · skip
                    go_simp
                    refine (CT.out v0 B4).mono ?_
                    rintro e v1 ⟨a6, c6, rfl, OC, b6⟩
                    have B5 : Below w15.heap.size w15 v1 := B4.trans (b6.mono B4.size)
                    have K1 : Kept (fun j => (j = gf ∨ j = gg) ∨ (w15.heap.size ≤ j ∧ j < v0.heap.size)) v1 v1 := Kept.refl _ _
                    refine hK.out _ _ ⟨B5, fun _ => trivial⟩ ?_
                    clear hK K b6 B4
                    have B4 := B5
                    clear B5
                    refine .tq 11 130 B4 ?_; simp only [oqA, oqB, oqC]
                    refine .tq 12 142 B4 ?_; simp only [oqA, oqB, oqC]
                    refine .tq 13 143 B4 ?_; simp only [oqA, oqB, oqC]
                    refine .tq 14 144 B4 ?_; simp only [oqA, oqB, oqC]
                    refine AnyG.ready (rs := [15]) (by kernel_rfl) (by simp) ?_
                    refine AllG.cons rfl (fun K hK => ?_) (AllG.nil)
                    · skip
                      go_simp
                      have NA : Blk (v1.alloc (.cells #[.int .u64 0, .int .i64 0, .int .i64 0, .int .i64 0, .slice none 0 0] 25)) v1.heap.size 25 (faA 0 0 0 0 (.slice none 0 0)) := Blk.new _ _ _
                      have gea : Hd (w15.heap.size ≤ v1.heap.size) := ⟨B4.size⟩
                      have b6 : Below v1.heap.size v1 (v1.alloc (.cells #[.int .u64 0, .int .i64 0, .int .i64 0, .int .i64 0, .slice none 0 0] 25)) := alloc_below _ _
                      have B5 := B4.trans (b6.mono B4.size)
                      replace K1 := K1.trans (Kept.of_below b6 _)
                      refine hK.out _ _ ⟨B5, fun _ => trivial⟩ ?_
                      clear hK K b6 B4
                      have B4 := B5
                      clear B5
                      generalize v1.alloc _ = v2 at *
                      obtain ⟨ga, hga⟩ : ∃ ga, ga = v1.heap.size := ⟨_, rfl⟩
                      rw [← hga] at NA gea ⊢
                      obtain ⟨⟨r0, r1, r2, r3, r4⟩, f0, f1, f2, f3, f4⟩ := NA.fair
                      obtain ⟨q1, q2⟩ := fair_set NA y.r y.g y.n y.o (.slice a6 y.F.length c6)
                      have K2 := K1.then q2 (fun j hj e => by omega)
                      clear hga
                      have B6 := B4.trans (q2.below B4.size (fun j e => by have := gea.out; omega))
                      have OC2 := OC.step (T := (fun j => j = gf ∨ j = gg)) K2 (fun j _ e => .inl e)
                      refine AnyG.ready (rs := [16]) (by kernel_rfl) (by simp) ?_
                      refine AllG.cons rfl (fun K hK => ?_) AllG.nil
                      go_simp
                      refine hK.out _ _ ⟨B6, fun _ => trivial⟩ ?_
                      clear hK K r0 r1 r2 r3 r4 f0 f1 f2 f3 f4
                      refine .tq 17 21 B6 ?_; simp only [oqA, oqB, oqC]
                      refine .tq 18 22 B6 ?_; simp only [oqA, oqB, oqC]
                      refine AnyG.done (by kernel_rfl) ?_ _
                      have HT : Hd (JnB w15 (fun j => j = gf ∨ j = gg) y kk ee (.pointer (some ⟨ga, 0, none⟩)) (.int .i64 kk) (.int .i64 ee) _) := ⟨⟨ga, a6, c6, ⟨rfl, rfl, rfl⟩, gea.out, q1, OC2, B6⟩⟩
                      clear NA OC K1 K2 q1 q2 B4 B6 OC2 gea
                      go_wp2_with fail
                      go_meet
                      exact HT.out
                  · skip
                    go_simp
                    have NA : Blk (v0.alloc (.cells #[.int .u64 0, .int .i64 0, .int .i64 0, .int .i64 0, .slice none 0 0] 25)) v0.heap.size 25 (faA 0 0 0 0 (.slice none 0 0)) := Blk.new _ _ _
                    have gea : Hd (w15.heap.size ≤ v0.heap.size) := ⟨B4.size⟩
                    have b6 : Below v0.heap.size v0 (v0.alloc (.cells #[.int .u64 0, .int .i64 0, .int .i64 0, .int .i64 0, .slice none 0 0] 25)) := alloc_below _ _
                    have B5 := B4.trans (b6.mono B4.size)
                    refine hK.out _ _ ⟨B5, fun _ => trivial⟩ ?_
                    clear hK K b6 B4
                    have B4 := B5
                    clear B5
                    generalize v0.alloc _ = v1 at *
                    generalize v0.heap.size = ga at *
                    refine AnyG.ready (rs := [10]) (by kernel_rfl) (by simp) ?_
                    refine AllG.cons rfl (fun K hK => ?_) (AllG.nil)
                    · skip
                      go_simp
                      refine (CT.out v1 B4).mono ?_
                      rintro e v2 ⟨a6, c6, rfl, OC, b6⟩
                      have B5 : Below w15.heap.size w15 v2 := B4.trans (b6.mono B4.size)
                      have hga : Hd (ga < v1.heap.size) := ⟨NA.lt⟩
                      replace NA := NA.kept (Kept.of_below b6 (fun _ => False)) id
                      have K1 : Kept (fun j => (j = gf ∨ j = gg) ∨ (w15.heap.size ≤ j ∧ j < v1.heap.size)) v2 v2 := Kept.refl _ _
                      refine hK.out _ _ ⟨B5, fun _ => trivial⟩ ?_
                      clear hK K b6 B4
                      have B4 := B5
                      clear B5
                      refine .tq 11 130 B4 ?_; simp only [oqA, oqB, oqC]
                      refine .tq 12 142 B4 ?_; simp only [oqA, oqB, oqC]
                      refine .tq 13 143 B4 ?_; simp only [oqA, oqB, oqC]
                      refine .tq 14 144 B4 ?_; simp only [oqA, oqB, oqC]
                      obtain ⟨⟨r0, r1, r2, r3, r4⟩, f0, f1, f2, f3, f4⟩ := NA.fair
                      obtain ⟨q1, q2⟩ := fair_set NA y.r y.g y.n y.o (.slice a6 y.F.length c6)
                      have K2 := K1.trans (q2.mono (fun j _ e => .inr ⟨by have := gea.out; omega, by have := hga.out; omega⟩))
                      have B6 := B4.trans (q2.below B4.size (fun j e => by have := gea.out; omega))
                      have OC2 := OC.step (T := (fun j => j = gf ∨ j = gg)) K2 (fun j _ e => .inl e)
                      refine AnyG.ready (rs := [16]) (by kernel_rfl) (by simp) ?_
                      refine AllG.cons rfl (fun K hK => ?_) AllG.nil
                      go_simp
                      refine hK.out _ _ ⟨B6, fun _ => trivial⟩ ?_
                      clear hK K r0 r1 r2 r3 r4 f0 f1 f2 f3 f4
                      refine .tq 17 21 B6 ?_; simp only [oqA, oqB, oqC]
                      refine .tq 18 22 B6 ?_; simp only [oqA, oqB, oqC]
                      refine AnyG.done (by kernel_rfl) ?_ _
                      have HT : Hd (JnB w15 (fun j => j = gf ∨ j = gg) y kk ee (.pointer (some ⟨ga, 0, none⟩)) (.int .i64 kk) (.int .i64 ee) _) := ⟨⟨ga, a6, c6, ⟨rfl, rfl, rfl⟩, gea.out, q1, OC2, B6⟩⟩
                      clear NA OC K1 K2 q1 q2 B4 B6 OC2 gea
                      go_wp2_with fail
                      go_meet
                      exact HT.out
                case rest =>
                  obtain ⟨wb, rfl⟩ : ∃ wb, wb = wc := ⟨_, rfl⟩
                  obtain ⟨q2, a6, c6, ⟨rfl, rfl, rfl⟩, hq2, N16, S16, B16⟩ := hcut.ex
                  clear hcut HY CT
                  have HB : Hd (PF w wb gf gg x ∧ Below w14.heap.size w14 wb ∧ Blk wb q1 25 (faA y.r y.g y.n y.o (.slice a5 y.F.length c5)) ∧ StR (fun j => j = gf ∨ j = gg) wb a5 c5 y.F ∧ Blk wb q2 25 (faA y.r y.g y.n y.o (.slice a6 y.F.length c6)) ∧ StR (fun j => j = gf ∨ j = gg) wb a6 c6 y.F ∧ (q1 ≠ gf ∧ q1 ≠ gg ∧ q2 ≠ gf ∧ q2 ≠ gg)) := ⟨H15.out.1.carry B16, H15.out.2.1.trans (B16.mono H15.out.2.1.size), H15.out.2.2.1.kept (Kept.of_below B16 (fun _ => False)) (fun h => h), H15.out.2.2.2.1.step (Kept.of_below B16 _) (fun _ _ e => e), N16, S16, by have := H15.out.2.2.2.2.2; have := H15.out.1.hi; have := H15.out.1.lt; omega⟩
                  clear H15 N16 S16 B16 hq2 hnh hnh2 hnh3 hcap hcap2 hcapI hnh0 HNH
                  by_cases hz : ee = 0
                  · skip
                    have hz' : (ee == 0) = true := by simp [hz]
                    have IY : Hd (IvP (k + 1) y) := ⟨IY0.out hz⟩
                    clear hz IY0
                    go_upto_region 29 with fail
                    refine AnyG.start (T := fun Y => Kept (fun j => j = gf ∨ j = gg) wb.drew Y) (U := fun _ => True) (j0 := 100) (by kernel_rfl) ?_
                    obtain ⟨w0, hw0⟩ : ∃ w0, w0 = wb.drew := ⟨_, rfl⟩
                    have BD : Below wb.heap.size wb w0 := by rw [hw0]; exact (Below.refl _ _).drew
                    rw [← hw0]
                    clear hw0
                    obtain ⟨W1, W2, eW1, eW2, ⟨u3, k3⟩, ⟨u4, k4⟩, m1, m2, PP⟩ := (HB.out.1.carry BD).put (y := y) (HB.out.2.2.2.1.step (Kept.of_below BD _) (fun _ _ e => e)) (HB.out.2.2.2.2.2.1.step (Kept.of_below BD _) (fun _ _ e => e))
                    have PZ0 : Hd (PF w W2 gf gg y ∧ Kept (fun j => j = gf ∨ j = gg) w14 W2) := ⟨PP, (Kept.of_below (HB.out.2.1.trans (BD.mono HB.out.2.1.size)) _).trans m2⟩
                    have HE1 := Hd.mk eW1
                    have HE2 := Hd.mk eW2
                    clear eW1 eW2
                    have NE := HB.out.2.2.2.2.2.2
                    have X0 : Hd (∀ Y, Kept (fun j => j = gf ∨ j = gg) w0 Y → Blk Y q1 25 (faA y.r y.g y.n y.o (.slice a5 y.F.length c5)) ∧ Blk Y q2 25 (faA y.r y.g y.n y.o (.slice a6 y.F.length c6))) := ⟨fun Y q => ⟨(HB.out.2.2.1.kept (Kept.of_below BD (fun _ => False)) (fun h => h)).kept q (by omega), (HB.out.2.2.2.2.1.kept (Kept.of_below BD (fun _ => False)) (fun h => h)).kept q (by omega)⟩⟩
                    have R0 : Kept (fun j => j = gf ∨ j = gg) w0 w0 := Kept.refl _ _
                    clear NE BD HB PP
                    refine .tq 0 155 R0 ?_ (hy := fun w hSw => by have s := (X0.out w hSw).1.fair.1; go_simp; rfl); simp only [oqA, oqB, oqC]
                    refine .tq 1 156 R0 ?_ (hy := fun w hSw => by have s := (X0.out w hSw).2.fair.1; go_simp; rfl); simp only [oqA, oqB, oqC]
                    obtain ⟨⟨r0, r1, r2, r3, r4⟩, f0, f1, f2, f3, f4⟩ := k3.fair
                    refine AnyG.ready (rs := [2]) (by kernel_rfl) (by simp) ?_
                    refine AllG.cons rfl (fun K hK => ?_) AllG.nil
                    go_simp
                    rw [← HE1.out]
                    refine hK.out _ _ ⟨m1, fun _ => trivial⟩ ?_
                    clear hK K r0 r1 r2 r3 r4 f0 f1 f2 f3 f4 k3
                    obtain ⟨⟨r0, r1, r2, r3, r4⟩, f0, f1, f2, f3, f4⟩ := k4.fair
                    refine AnyG.ready (rs := [3]) (by kernel_rfl) (by simp) ?_
                    refine AllG.cons rfl (fun K hK => ?_) AllG.nil
                    go_simp
                    rw [← HE2.out]
                    refine hK.out _ _ ⟨m2, fun _ => trivial⟩ ?_
                    clear hK K r0 r1 r2 r3 r4 f0 f1 f2 f3 f4 k4
                    refine AnyG.done (by kernel_rfl) ?_ _
                    obtain ⟨wz, hwz⟩ : ∃ wz, wz = W2 := ⟨_, rfl⟩
                    have PZ : Hd (PF w wz gf gg y ∧ Kept (fun j => j = gf ∨ j = gg) w14 wz) := ⟨by rw [hwz]; exact PZ0.out⟩
                    rw [← hwz]
                    clear hwz PZ0 X0 R0 m1 m2 HE1 HE2
                    obtain ⟨a3, c3, k3, r3⟩ := PZ.out.1.f
                    obtain ⟨a4, c4, k4, r4⟩ := PZ.out.1.g
                    obtain ⟨⟨x0, x1, x2, x3, x4⟩, -⟩ := k3.fair
                    obtain ⟨⟨y0, y1, y2, y3, y4⟩, -⟩ := k4.fair
                    have CC := same22_ok y.r y.g y.n y.o a3 a4 c3 c4 y.F wz (r3.read (Kept.refl _ _)) (r4.read (Kept.refl _ _)) IY.out.few
                    clear k3 k4 r3 r4
                    go_upto_region 42 with fail
                    go_wp2_with fail
                    go_at_call 16
                    refine CC.mono ?_
                    rintro e v1 ⟨rfl, b1⟩
                    clear CC x0 x1 x2 x3 x4 y0 y1 y2 y3 y4
                    have P1 : Hd (PF w v1 gf gg y) := ⟨PZ.out.1.carry b1⟩
                    obtain ⟨k3, k4, r3, r4⟩ := TL.out v1 (PZ.out.2.trans (Kept.of_below b1 _))
                    obtain ⟨⟨x0, x1, x2, x3, x4⟩, -⟩ := k3.fair
                    obtain ⟨⟨y0, y1, y2, y3, y4⟩, -⟩ := k4.fair
                    have CC := same22_ok x.r x.g x.n x.o ao aw co cw x.F v1 r4 r3 IV.out.few
                    clear k3 k4 r3 r4 b1 PZ TL
                    go_wp2_with fail
                    go_at_call 16
                    refine CC.mono ?_
                    rintro e v2 ⟨rfl, b2⟩
                    clear CC x0 x1 x2 x3 x4 y0 y1 y2 y3 y4
                    have PE : Hd (PF w v2 gf gg y) := ⟨P1.out.carry b2⟩
                    clear P1 b2
                    go_wp2_with fail
                    go_roundw
                    case rel => exact ⟨k + 1, y, by omega, by omega, by go_num, IY.out, PE.out⟩
                    case measure => simp [intOf]; omega
                  · skip
                    have hz' : (ee == 0) = false := by simp [hz]
                    clear hz IY0
                    obtain ⟨wz, hwz⟩ : ∃ wz, wz = wb := ⟨_, rfl⟩
                    have PZ : Hd (PF w wz gf gg x ∧ Kept (fun j => j = gf ∨ j = gg) w14 wz) := ⟨by rw [hwz]; exact ⟨HB.out.1, Kept.of_below HB.out.2.1 _⟩⟩
                    have IY : Hd (IvP (k + 1) x) := ⟨IV.out.more⟩
                    rw [← hwz]
                    clear hwz HB
                    obtain ⟨a3, c3, k3, r3⟩ := PZ.out.1.f
                    obtain ⟨a4, c4, k4, r4⟩ := PZ.out.1.g
                    obtain ⟨⟨x0, x1, x2, x3, x4⟩, -⟩ := k3.fair
                    obtain ⟨⟨y0, y1, y2, y3, y4⟩, -⟩ := k4.fair
                    have CC := same22_ok x.r x.g x.n x.o a3 a4 c3 c4 x.F wz (r3.read (Kept.refl _ _)) (r4.read (Kept.refl _ _)) IY.out.few
                    clear k3 k4 r3 r4
                    go_upto_region 42 with fail
                    go_wp2_with fail
                    go_at_call 16
                    refine CC.mono ?_
                    rintro e v1 ⟨rfl, b1⟩
                    clear CC x0 x1 x2 x3 x4 y0 y1 y2 y3 y4
                    have P1 : Hd (PF w v1 gf gg x) := ⟨PZ.out.1.carry b1⟩
                    obtain ⟨k3, k4, r3, r4⟩ := TL.out v1 (PZ.out.2.trans (Kept.of_below b1 _))
                    obtain ⟨⟨x0, x1, x2, x3, x4⟩, -⟩ := k3.fair
                    obtain ⟨⟨y0, y1, y2, y3, y4⟩, -⟩ := k4.fair
                    have CC := same22_ok x.r x.g x.n x.o ao aw co cw x.F v1 r4 r3 IV.out.few
                    clear k3 k4 r3 r4 b1 PZ TL
                    go_wp2_with fail
                    go_at_call 16
                    refine CC.mono ?_
                    rintro e v2 ⟨rfl, b2⟩
                    clear CC x0 x1 x2 x3 x4 y0 y1 y2 y3 y4
                    have PE : Hd (PF w v2 gf gg x) := ⟨P1.out.carry b2⟩
                    clear P1 b2
                    go_wp2_with fail
                    go_roundw
                    case rel => exact ⟨k + 1, x, by omega, by omega, by go_num, IY.out, PE.out⟩
                    case measure => simp [intOf]; omega
          · as_aux_lemma =>
              obtain ⟨y, hy⟩ : ∃ y, y = tkX x := ⟨_, rfl⟩
              obtain ⟨okz, hokz⟩ : ∃ okz, okz = tkO x := ⟨_, rfl⟩
              obtain ⟨tz, htz⟩ : ∃ tz, tz = tkT x := ⟨_, rfl⟩
              have CA : Hd (∀ Y a c, StR (fun j => j = gf ∨ j = gg) Y a c x.F → (∀ j, (j = gf ∨ j = gg) → j < Y.heap.size) → Calls Try.prog 23 #[.agg #[.int .u64 x.r, .int .i64 x.g, .int .i64 x.n, .int .i64 x.o, .slice a x.F.length c]] Y fun e w' => (∃ v, e = .returned (.tuple #[v, .agg #[.int .i64 tz.id, .int .i64 tz.wid, .int .i64 tz.sts, .int .i64 tz.sin, .int .i64 tz.unt], .bool okz]) ∧ FaT (fun j => j = gf ∨ j = gg) w' y v) ∧ Below Y.heap.size Y w') := ⟨fun Y a c q1 q2 => by
                rw [hy, hokz, htz]
                exact take_st x a c Y _ q1 q2 IV.out.few⟩
              have CB : Hd (∀ Y a c, StR (fun j => j = gf ∨ j = gg) Y a c x.F → (∀ j, (j = gf ∨ j = gg) → j < Y.heap.size) → Calls Try.prog 24 #[.agg #[.int .u64 x.r, .int .i64 x.g, .int .i64 x.n, .int .i64 x.o, .slice a x.F.length c]] Y fun e w' => (∃ v, e = .returned (.tuple #[v, .agg #[.int .i64 tz.id, .int .i64 tz.wid, .int .i64 tz.sts, .int .i64 tz.sin, .int .i64 tz.unt], .bool okz]) ∧ FaT (fun j => j = gf ∨ j = gg) w' y v) ∧ Below Y.heap.size Y w') := ⟨fun Y a c q1 q2 => by
                rw [hy, hokz, htz]
                exact rtake_st x a c Y _ q1 q2 IV.out.few⟩
              have IY : Hd (IvP (k + 1) y) := ⟨by rw [hy]; exact IV.out.take⟩
              clear hy hokz htz
              obtain ⟨q0, q1, q2, q3, q4⟩ := tz
              simp only at CA CB
              obtain ⟨a3, c3, k3, r3⟩ := H14.out.1.f
              obtain ⟨⟨x0, x1, x2, x3, x4⟩, -⟩ := k3.fair
              have CC := CA.out w14 a3 c3 r3 H14.out.1.mv
              clear k3 r3
              go_wp2_with fail
              go_at_call 23
              refine CC.mono ?_
              rintro e w15 ⟨⟨v, rfl, a5, c5, rfl, s5⟩, b15⟩
              clear CC CA x0 x1 x2 x3 x4 z0 z1 z2 z3 z4 z5 z6 z7
              obtain ⟨w16, hw16⟩ : ∃ W, W = (w15.alloc (.cells #[.int .u64 y.r, .int .i64 y.g, .int .i64 y.n, .int .i64 y.o, .slice a5 y.F.length c5] 25)).alloc (.cells #[.int .i64 q0, .int .i64 q1, .int .i64 q2, .int .i64 q3, .int .i64 q4] 28) := ⟨_, rfl⟩
              obtain ⟨BB, NN, NT⟩ := boxes w15 25 28 #[.int .u64 y.r, .int .i64 y.g, .int .i64 y.n, .int .i64 y.o, .slice a5 y.F.length c5] #[.int .i64 q0, .int .i64 q1, .int .i64 q2, .int .i64 q3, .int .i64 q4]
              rw [← hw16] at BB NN NT
              have NN : Blk w16 w15.heap.size 25 (faA y.r y.g y.n y.o (.slice a5 y.F.length c5)) := NN
              have NT : Blk w16 (w15.heap.size + 1) 28 (tkA ⟨q0, q1, q2, q3, q4⟩) := NT
              obtain ⟨g1, hg1⟩ : ∃ g, g = w15.heap.size := ⟨_, rfl⟩
              rw [← hg1] at NN NT
              have b14 := b15.trans (BB.mono b15.size)
              have H16 : Hd (PF w w16 gf gg x ∧ Below w14.heap.size w14 w16 ∧ Blk w16 g1 25 (faA y.r y.g y.n y.o (.slice a5 y.F.length c5)) ∧ StR (fun j => j = gf ∨ j = gg) w16 a5 c5 y.F ∧ Blk w16 ob 54 #[.int .i64 dd, .slice ha hn' hc', .int .i64 t0, .int .i64 t1, .int .i64 t2, .int .i64 t3, .int .i64 t4, .int .i64 op] ∧ g1 ≠ gf ∧ g1 ≠ gg ∧ Blk w16 (g1 + 1) 28 (tkA ⟨q0, q1, q2, q3, q4⟩)) := ⟨H14.out.1.carry b14, b14, NN, s5.step (Kept.of_below BB _) (fun _ _ e => e), H14.out.2.1.kept (Kept.of_below b14 (fun _ => False)) (fun h => h), by have := H14.out.1.hi; have := H14.out.1.lt; have := b15.size; omega, by have := H14.out.1.hi; have := b15.size; omega, NT⟩
              clear s5 b15 BB NN b14 NT
              go_upto_region 32 with fail
              rw [← hw16, ← hg1]
              clear hw16 hg1
              obtain ⟨a4, c4, k4, r4⟩ := H16.out.1.g
              obtain ⟨⟨x0, x1, x2, x3, x4⟩, -⟩ := k4.fair
              have CC := CB.out w16 a4 c4 r4 H16.out.1.mv
              obtain ⟨z0, z1, z2, z3, z4, z5, z6, z7⟩ := H16.out.2.2.2.2.1.sc
              clear k4 r4
              go_wp2_with fail
              go_at_call 24
              refine CC.mono ?_
              rintro e w17 ⟨⟨v, rfl, a6, c6, rfl, s6⟩, b17⟩
              clear CC CB x0 x1 x2 x3 x4 z0 z1 z2 z3 z4 z5 z6 z7
              obtain ⟨wb, hwb⟩ : ∃ W, W = (w17.alloc (.cells #[.int .u64 y.r, .int .i64 y.g, .int .i64 y.n, .int .i64 y.o, .slice a6 y.F.length c6] 25)).alloc (.cells #[.int .i64 q0, .int .i64 q1, .int .i64 q2, .int .i64 q3, .int .i64 q4] 28) := ⟨_, rfl⟩
              obtain ⟨BB, NN, NT⟩ := boxes w17 25 28 #[.int .u64 y.r, .int .i64 y.g, .int .i64 y.n, .int .i64 y.o, .slice a6 y.F.length c6] #[.int .i64 q0, .int .i64 q1, .int .i64 q2, .int .i64 q3, .int .i64 q4]
              rw [← hwb] at BB NN NT
              have NN : Blk wb w17.heap.size 25 (faA y.r y.g y.n y.o (.slice a6 y.F.length c6)) := NN
              have NT : Blk wb (w17.heap.size + 1) 28 (tkA ⟨q0, q1, q2, q3, q4⟩) := NT
              obtain ⟨g2, hg2⟩ : ∃ g, g = w17.heap.size := ⟨_, rfl⟩
              rw [← hg2] at NN NT
              have b14 := b17.trans (BB.mono b17.size)
              have HB : Hd (PF w wb gf gg x ∧ Below w14.heap.size w14 wb ∧ Blk wb g1 25 (faA y.r y.g y.n y.o (.slice a5 y.F.length c5)) ∧ StR (fun j => j = gf ∨ j = gg) wb a5 c5 y.F ∧ Blk wb g2 25 (faA y.r y.g y.n y.o (.slice a6 y.F.length c6)) ∧ StR (fun j => j = gf ∨ j = gg) wb a6 c6 y.F ∧ (g1 ≠ gf ∧ g1 ≠ gg ∧ g2 ≠ gf ∧ g2 ≠ gg)) := ⟨H16.out.1.carry b14, H16.out.2.1.trans (b14.mono H16.out.2.1.size), H16.out.2.2.1.kept (Kept.of_below b14 (fun _ => False)) (fun h => h), H16.out.2.2.2.1.step (Kept.of_below b14 _) (fun _ _ e => e), NN, s6.step (Kept.of_below BB _) (fun _ _ e => e), H16.out.2.2.2.2.2.1, by have := H16.out.2.2.2.2.2.2; exact this.1, by have := H16.out.1.hi; have := H16.out.1.lt; have := b17.size; omega, by have := H16.out.1.hi; have := b17.size; omega⟩
              have N1 := H16.out.2.2.2.2.2.2.2.kept (Kept.of_below b14 (fun _ => False)) (fun h => h)
              obtain ⟨⟨r0, r1, r2, r3, r4⟩, -⟩ := N1.five
              obtain ⟨⟨f0, f1, f2, f3, f4⟩, -⟩ := NT.five
              simp only at r0 r1 r2 r3 r4 f0 f1 f2 f3 f4
              clear s6 b17 BB NN b14 H16 NT N1
              go_upto_region 33 with fail
              rw [← hwb, ← hg2]
              clear hwb hg2
              go_upto_region 35 with fail
              refine AnyG.start (T := fun Y => Kept (fun j => j = gf ∨ j = gg) wb.drew Y) (U := fun _ => True) (j0 := 100) (by kernel_rfl) ?_
              obtain ⟨w0, hw0⟩ : ∃ w0, w0 = wb.drew := ⟨_, rfl⟩
              have BD : Below wb.heap.size wb w0 := by rw [hw0]; exact (Below.refl _ _).drew
              rw [← hw0]
              clear hw0
              obtain ⟨W1, W2, eW1, eW2, ⟨u3, k3⟩, ⟨u4, k4⟩, m1, m2, PP⟩ := (HB.out.1.carry BD).put (y := y) (HB.out.2.2.2.1.step (Kept.of_below BD _) (fun _ _ e => e)) (HB.out.2.2.2.2.2.1.step (Kept.of_below BD _) (fun _ _ e => e))
              have PZ0 : Hd (PF w W2 gf gg y ∧ Kept (fun j => j = gf ∨ j = gg) w14 W2) := ⟨PP, (Kept.of_below (HB.out.2.1.trans (BD.mono HB.out.2.1.size)) _).trans m2⟩
              have HE1 := Hd.mk eW1
              have HE2 := Hd.mk eW2
              clear eW1 eW2
              have NE := HB.out.2.2.2.2.2.2
              have X0 : Hd (∀ Y, Kept (fun j => j = gf ∨ j = gg) w0 Y → Blk Y g1 25 (faA y.r y.g y.n y.o (.slice a5 y.F.length c5)) ∧ Blk Y g2 25 (faA y.r y.g y.n y.o (.slice a6 y.F.length c6))) := ⟨fun Y q => ⟨(HB.out.2.2.1.kept (Kept.of_below BD (fun _ => False)) (fun h => h)).kept q (by omega), (HB.out.2.2.2.2.1.kept (Kept.of_below BD (fun _ => False)) (fun h => h)).kept q (by omega)⟩⟩
              have R0 : Kept (fun j => j = gf ∨ j = gg) w0 w0 := Kept.refl _ _
              clear r0 r1 r2 r3 r4 f0 f1 f2 f3 f4 NE BD HB PP
              refine .tq 0 179 R0 ?_ (hy := fun w hSw => by have s := (X0.out w hSw).1.fair.1; go_simp; rfl); simp only [oqA, oqB, oqC]
              refine .tq 1 180 R0 ?_ (hy := fun w hSw => by have s := (X0.out w hSw).2.fair.1; go_simp; rfl); simp only [oqA, oqB, oqC]
              obtain ⟨⟨r0, r1, r2, r3, r4⟩, f0, f1, f2, f3, f4⟩ := k3.fair
              refine AnyG.ready (rs := [2]) (by kernel_rfl) (by simp) ?_
              refine AllG.cons rfl (fun K hK => ?_) AllG.nil
              go_simp
              rw [← HE1.out]
              refine hK.out _ _ ⟨m1, fun _ => trivial⟩ ?_
              clear hK K r0 r1 r2 r3 r4 f0 f1 f2 f3 f4 k3
              obtain ⟨⟨r0, r1, r2, r3, r4⟩, f0, f1, f2, f3, f4⟩ := k4.fair
              refine AnyG.ready (rs := [3]) (by kernel_rfl) (by simp) ?_
              refine AllG.cons rfl (fun K hK => ?_) AllG.nil
              go_simp
              rw [← HE2.out]
              refine hK.out _ _ ⟨m2, fun _ => trivial⟩ ?_
              clear hK K r0 r1 r2 r3 r4 f0 f1 f2 f3 f4 k4
              refine AnyG.done (by kernel_rfl) ?_ _
              obtain ⟨wz, hwz⟩ : ∃ wz, wz = W2 := ⟨_, rfl⟩
              have PZ : Hd (PF w wz gf gg y ∧ Kept (fun j => j = gf ∨ j = gg) w14 wz) := ⟨by rw [hwz]; exact PZ0.out⟩
              rw [← hwz]
              clear hwz PZ0 X0 R0 m1 m2 HE1 HE2
              obtain ⟨a3, c3, k3, r3⟩ := PZ.out.1.f
              obtain ⟨a4, c4, k4, r4⟩ := PZ.out.1.g
              obtain ⟨⟨x0, x1, x2, x3, x4⟩, -⟩ := k3.fair
              obtain ⟨⟨y0, y1, y2, y3, y4⟩, -⟩ := k4.fair
              have CC := same22_ok y.r y.g y.n y.o a3 a4 c3 c4 y.F wz (r3.read (Kept.refl _ _)) (r4.read (Kept.refl _ _)) IY.out.few
              clear k3 k4 r3 r4
              go_upto_region 42 with fail
              go_wp2_with fail
              go_at_call 16
              refine CC.mono ?_
              rintro e v1 ⟨rfl, b1⟩
              clear CC x0 x1 x2 x3 x4 y0 y1 y2 y3 y4
              have P1 : Hd (PF w v1 gf gg y) := ⟨PZ.out.1.carry b1⟩
              obtain ⟨k3, k4, r3, r4⟩ := TL.out v1 (PZ.out.2.trans (Kept.of_below b1 _))
              obtain ⟨⟨x0, x1, x2, x3, x4⟩, -⟩ := k3.fair
              obtain ⟨⟨y0, y1, y2, y3, y4⟩, -⟩ := k4.fair
              have CC := same22_ok x.r x.g x.n x.o ao aw co cw x.F v1 r4 r3 IV.out.few
              clear k3 k4 r3 r4 b1 PZ TL
              go_wp2_with fail
              go_at_call 16
              refine CC.mono ?_
              rintro e v2 ⟨rfl, b2⟩
              clear CC x0 x1 x2 x3 x4 y0 y1 y2 y3 y4
              have PE : Hd (PF w v2 gf gg y) := ⟨P1.out.carry b2⟩
              clear P1 b2
              go_wp2_with fail
              go_roundw
              case rel => exact ⟨k + 1, y, by omega, by omega, by go_num, IY.out, PE.out⟩
              case measure => simp [intOf]; omega
          · as_aux_lemma =>
              obtain ⟨y, hy⟩ : ∃ y, y = dpX x t0 := ⟨_, rfl⟩
              obtain ⟨okz, hokz⟩ : ∃ okz, okz = dpO x t0 := ⟨_, rfl⟩
              obtain ⟨tz, htz⟩ : ∃ tz, tz = dpT x t0 := ⟨_, rfl⟩
              have CA : Hd (∀ Y a c, StR (fun j => j = gf ∨ j = gg) Y a c x.F → (∀ j, (j = gf ∨ j = gg) → j < Y.heap.size) → Calls Try.prog 25 #[.agg #[.int .u64 x.r, .int .i64 x.g, .int .i64 x.n, .int .i64 x.o, .slice a x.F.length c], .int .i64 t0] Y fun e w' => (∃ v, e = .returned (.tuple #[v, .agg #[.int .i64 tz.id, .int .i64 tz.wid, .int .i64 tz.sts, .int .i64 tz.sin, .int .i64 tz.unt], .bool okz]) ∧ FaT (fun j => j = gf ∨ j = gg) w' y v) ∧ Below Y.heap.size Y w') := ⟨fun Y a c q1 q2 => by
                rw [hy, hokz, htz]
                exact drop_st x a c Y _ q1 q2 IV.out.few t0⟩
              have CB : Hd (∀ Y a c, StR (fun j => j = gf ∨ j = gg) Y a c x.F → (∀ j, (j = gf ∨ j = gg) → j < Y.heap.size) → Calls Try.prog 26 #[.agg #[.int .u64 x.r, .int .i64 x.g, .int .i64 x.n, .int .i64 x.o, .slice a x.F.length c], .int .i64 t0] Y fun e w' => (∃ v, e = .returned (.tuple #[v, .agg #[.int .i64 tz.id, .int .i64 tz.wid, .int .i64 tz.sts, .int .i64 tz.sin, .int .i64 tz.unt], .bool okz]) ∧ FaT (fun j => j = gf ∨ j = gg) w' y v) ∧ Below Y.heap.size Y w') := ⟨fun Y a c q1 q2 => by
                rw [hy, hokz, htz]
                exact rdrop_st x a c Y _ q1 q2 IV.out.few t0⟩
              have IY : Hd (IvP (k + 1) y) := ⟨by rw [hy]; exact IV.out.drop t0⟩
              clear hy hokz htz
              obtain ⟨q0, q1, q2, q3, q4⟩ := tz
              simp only at CA CB
              obtain ⟨a3, c3, k3, r3⟩ := H14.out.1.f
              obtain ⟨⟨x0, x1, x2, x3, x4⟩, -⟩ := k3.fair
              have CC := CA.out w14 a3 c3 r3 H14.out.1.mv
              clear k3 r3
              go_wp2_with fail
              go_at_call 25
              refine CC.mono ?_
              rintro e w15 ⟨⟨v, rfl, a5, c5, rfl, s5⟩, b15⟩
              clear CC CA x0 x1 x2 x3 x4 z0 z1 z2 z3 z4 z5 z6 z7
              obtain ⟨w16, hw16⟩ : ∃ W, W = (w15.alloc (.cells #[.int .u64 y.r, .int .i64 y.g, .int .i64 y.n, .int .i64 y.o, .slice a5 y.F.length c5] 25)).alloc (.cells #[.int .i64 q0, .int .i64 q1, .int .i64 q2, .int .i64 q3, .int .i64 q4] 28) := ⟨_, rfl⟩
              obtain ⟨BB, NN, NT⟩ := boxes w15 25 28 #[.int .u64 y.r, .int .i64 y.g, .int .i64 y.n, .int .i64 y.o, .slice a5 y.F.length c5] #[.int .i64 q0, .int .i64 q1, .int .i64 q2, .int .i64 q3, .int .i64 q4]
              rw [← hw16] at BB NN NT
              have NN : Blk w16 w15.heap.size 25 (faA y.r y.g y.n y.o (.slice a5 y.F.length c5)) := NN
              have NT : Blk w16 (w15.heap.size + 1) 28 (tkA ⟨q0, q1, q2, q3, q4⟩) := NT
              obtain ⟨g1, hg1⟩ : ∃ g, g = w15.heap.size := ⟨_, rfl⟩
              rw [← hg1] at NN NT
              have b14 := b15.trans (BB.mono b15.size)
              have H16 : Hd (PF w w16 gf gg x ∧ Below w14.heap.size w14 w16 ∧ Blk w16 g1 25 (faA y.r y.g y.n y.o (.slice a5 y.F.length c5)) ∧ StR (fun j => j = gf ∨ j = gg) w16 a5 c5 y.F ∧ Blk w16 ob 54 #[.int .i64 dd, .slice ha hn' hc', .int .i64 t0, .int .i64 t1, .int .i64 t2, .int .i64 t3, .int .i64 t4, .int .i64 op] ∧ g1 ≠ gf ∧ g1 ≠ gg ∧ Blk w16 (g1 + 1) 28 (tkA ⟨q0, q1, q2, q3, q4⟩)) := ⟨H14.out.1.carry b14, b14, NN, s5.step (Kept.of_below BB _) (fun _ _ e => e), H14.out.2.1.kept (Kept.of_below b14 (fun _ => False)) (fun h => h), by have := H14.out.1.hi; have := H14.out.1.lt; have := b15.size; omega, by have := H14.out.1.hi; have := b15.size; omega, NT⟩
              clear s5 b15 BB NN b14 NT
              go_upto_region 38 with fail
              rw [← hw16, ← hg1]
              clear hw16 hg1
              obtain ⟨a4, c4, k4, r4⟩ := H16.out.1.g
              obtain ⟨⟨x0, x1, x2, x3, x4⟩, -⟩ := k4.fair
              have CC := CB.out w16 a4 c4 r4 H16.out.1.mv
              obtain ⟨z0, z1, z2, z3, z4, z5, z6, z7⟩ := H16.out.2.2.2.2.1.sc
              clear k4 r4
              go_wp2_with fail
              go_at_call 26
              refine CC.mono ?_
              rintro e w17 ⟨⟨v, rfl, a6, c6, rfl, s6⟩, b17⟩
              clear CC CB x0 x1 x2 x3 x4 z0 z1 z2 z3 z4 z5 z6 z7
              obtain ⟨wb, hwb⟩ : ∃ W, W = (w17.alloc (.cells #[.int .u64 y.r, .int .i64 y.g, .int .i64 y.n, .int .i64 y.o, .slice a6 y.F.length c6] 25)).alloc (.cells #[.int .i64 q0, .int .i64 q1, .int .i64 q2, .int .i64 q3, .int .i64 q4] 28) := ⟨_, rfl⟩
              obtain ⟨BB, NN, NT⟩ := boxes w17 25 28 #[.int .u64 y.r, .int .i64 y.g, .int .i64 y.n, .int .i64 y.o, .slice a6 y.F.length c6] #[.int .i64 q0, .int .i64 q1, .int .i64 q2, .int .i64 q3, .int .i64 q4]
              rw [← hwb] at BB NN NT
              have NN : Blk wb w17.heap.size 25 (faA y.r y.g y.n y.o (.slice a6 y.F.length c6)) := NN
              have NT : Blk wb (w17.heap.size + 1) 28 (tkA ⟨q0, q1, q2, q3, q4⟩) := NT
              obtain ⟨g2, hg2⟩ : ∃ g, g = w17.heap.size := ⟨_, rfl⟩
              rw [← hg2] at NN NT
              have b14 := b17.trans (BB.mono b17.size)
              have HB : Hd (PF w wb gf gg x ∧ Below w14.heap.size w14 wb ∧ Blk wb g1 25 (faA y.r y.g y.n y.o (.slice a5 y.F.length c5)) ∧ StR (fun j => j = gf ∨ j = gg) wb a5 c5 y.F ∧ Blk wb g2 25 (faA y.r y.g y.n y.o (.slice a6 y.F.length c6)) ∧ StR (fun j => j = gf ∨ j = gg) wb a6 c6 y.F ∧ (g1 ≠ gf ∧ g1 ≠ gg ∧ g2 ≠ gf ∧ g2 ≠ gg)) := ⟨H16.out.1.carry b14, H16.out.2.1.trans (b14.mono H16.out.2.1.size), H16.out.2.2.1.kept (Kept.of_below b14 (fun _ => False)) (fun h => h), H16.out.2.2.2.1.step (Kept.of_below b14 _) (fun _ _ e => e), NN, s6.step (Kept.of_below BB _) (fun _ _ e => e), H16.out.2.2.2.2.2.1, by have := H16.out.2.2.2.2.2.2; exact this.1, by have := H16.out.1.hi; have := H16.out.1.lt; have := b17.size; omega, by have := H16.out.1.hi; have := b17.size; omega⟩
              have N1 := H16.out.2.2.2.2.2.2.2.kept (Kept.of_below b14 (fun _ => False)) (fun h => h)
              obtain ⟨⟨r0, r1, r2, r3, r4⟩, -⟩ := N1.five
              obtain ⟨⟨f0, f1, f2, f3, f4⟩, -⟩ := NT.five
              simp only at r0 r1 r2 r3 r4 f0 f1 f2 f3 f4
              clear s6 b17 BB NN b14 H16 NT N1
              go_upto_region 39 with fail
              rw [← hwb, ← hg2]
              clear hwb hg2
              go_upto_region 41 with fail
              refine AnyG.start (T := fun Y => Kept (fun j => j = gf ∨ j = gg) wb.drew Y) (U := fun _ => True) (j0 := 100) (by kernel_rfl) ?_
              obtain ⟨w0, hw0⟩ : ∃ w0, w0 = wb.drew := ⟨_, rfl⟩
              have BD : Below wb.heap.size wb w0 := by rw [hw0]; exact (Below.refl _ _).drew
              rw [← hw0]
              clear hw0
              obtain ⟨W1, W2, eW1, eW2, ⟨u3, k3⟩, ⟨u4, k4⟩, m1, m2, PP⟩ := (HB.out.1.carry BD).put (y := y) (HB.out.2.2.2.1.step (Kept.of_below BD _) (fun _ _ e => e)) (HB.out.2.2.2.2.2.1.step (Kept.of_below BD _) (fun _ _ e => e))
              have PZ0 : Hd (PF w W2 gf gg y ∧ Kept (fun j => j = gf ∨ j = gg) w14 W2) := ⟨PP, (Kept.of_below (HB.out.2.1.trans (BD.mono HB.out.2.1.size)) _).trans m2⟩
              have HE1 := Hd.mk eW1
              have HE2 := Hd.mk eW2
              clear eW1 eW2
              have NE := HB.out.2.2.2.2.2.2
              have X0 : Hd (∀ Y, Kept (fun j => j = gf ∨ j = gg) w0 Y → Blk Y g1 25 (faA y.r y.g y.n y.o (.slice a5 y.F.length c5)) ∧ Blk Y g2 25 (faA y.r y.g y.n y.o (.slice a6 y.F.length c6))) := ⟨fun Y q => ⟨(HB.out.2.2.1.kept (Kept.of_below BD (fun _ => False)) (fun h => h)).kept q (by omega), (HB.out.2.2.2.2.1.kept (Kept.of_below BD (fun _ => False)) (fun h => h)).kept q (by omega)⟩⟩
              have R0 : Kept (fun j => j = gf ∨ j = gg) w0 w0 := Kept.refl _ _
              clear r0 r1 r2 r3 r4 f0 f1 f2 f3 f4 NE BD HB PP
              refine .tq 0 209 R0 ?_ (hy := fun w hSw => by have s := (X0.out w hSw).1.fair.1; go_simp; rfl); simp only [oqA, oqB, oqC]
              refine .tq 1 210 R0 ?_ (hy := fun w hSw => by have s := (X0.out w hSw).2.fair.1; go_simp; rfl); simp only [oqA, oqB, oqC]
              obtain ⟨⟨r0, r1, r2, r3, r4⟩, f0, f1, f2, f3, f4⟩ := k3.fair
              refine AnyG.ready (rs := [2]) (by kernel_rfl) (by simp) ?_
              refine AllG.cons rfl (fun K hK => ?_) AllG.nil
              go_simp
              rw [← HE1.out]
              refine hK.out _ _ ⟨m1, fun _ => trivial⟩ ?_
              clear hK K r0 r1 r2 r3 r4 f0 f1 f2 f3 f4 k3
              obtain ⟨⟨r0, r1, r2, r3, r4⟩, f0, f1, f2, f3, f4⟩ := k4.fair
              refine AnyG.ready (rs := [3]) (by kernel_rfl) (by simp) ?_
              refine AllG.cons rfl (fun K hK => ?_) AllG.nil
              go_simp
              rw [← HE2.out]
              refine hK.out _ _ ⟨m2, fun _ => trivial⟩ ?_
              clear hK K r0 r1 r2 r3 r4 f0 f1 f2 f3 f4 k4
              refine AnyG.done (by kernel_rfl) ?_ _
              obtain ⟨wz, hwz⟩ : ∃ wz, wz = W2 := ⟨_, rfl⟩
              have PZ : Hd (PF w wz gf gg y ∧ Kept (fun j => j = gf ∨ j = gg) w14 wz) := ⟨by rw [hwz]; exact PZ0.out⟩
              rw [← hwz]
              clear hwz PZ0 X0 R0 m1 m2 HE1 HE2
              obtain ⟨a3, c3, k3, r3⟩ := PZ.out.1.f
              obtain ⟨a4, c4, k4, r4⟩ := PZ.out.1.g
              obtain ⟨⟨x0, x1, x2, x3, x4⟩, -⟩ := k3.fair
              obtain ⟨⟨y0, y1, y2, y3, y4⟩, -⟩ := k4.fair
              have CC := same22_ok y.r y.g y.n y.o a3 a4 c3 c4 y.F wz (r3.read (Kept.refl _ _)) (r4.read (Kept.refl _ _)) IY.out.few
              clear k3 k4 r3 r4
              go_upto_region 42 with fail
              go_wp2_with fail
              go_at_call 16
              refine CC.mono ?_
              rintro e v1 ⟨rfl, b1⟩
              clear CC x0 x1 x2 x3 x4 y0 y1 y2 y3 y4
              have P1 : Hd (PF w v1 gf gg y) := ⟨PZ.out.1.carry b1⟩
              obtain ⟨k3, k4, r3, r4⟩ := TL.out v1 (PZ.out.2.trans (Kept.of_below b1 _))
              obtain ⟨⟨x0, x1, x2, x3, x4⟩, -⟩ := k3.fair
              obtain ⟨⟨y0, y1, y2, y3, y4⟩, -⟩ := k4.fair
              have CC := same22_ok x.r x.g x.n x.o ao aw co cw x.F v1 r4 r3 IV.out.few
              clear k3 k4 r3 r4 b1 PZ TL
              go_wp2_with fail
              go_at_call 16
              refine CC.mono ?_
              rintro e v2 ⟨rfl, b2⟩
              clear CC x0 x1 x2 x3 x4 y0 y1 y2 y3 y4
              have PE : Hd (PF w v2 gf gg y) := ⟨P1.out.carry b2⟩
              clear P1 b2
              go_wp2_with fail
              go_roundw
              case rel => exact ⟨k + 1, y, by omega, by omega, by go_num, IY.out, PE.out⟩
              case measure => simp [intOf]; omega
          · as_aux_lemma =>
              obtain ⟨y, hy⟩ : ∃ y, y = shX x op g n := ⟨_, rfl⟩
              obtain ⟨okz, hokz⟩ : ∃ okz, okz = nwE op g n := ⟨_, rfl⟩
              have CA : Hd (∀ Y a c, StR (fun j => j = gf ∨ j = gg) Y a c x.F → (∀ j, (j = gf ∨ j = gg) → j < Y.heap.size) → Calls Try.prog 14 #[.agg #[.int .u64 x.r, .int .i64 x.g, .int .i64 x.n, .int .i64 x.o, .slice a x.F.length c], .int .i64 op, .int .i64 g, .int .i64 n] Y fun e w' => (∃ v, e = .returned (.tuple #[v, .int .i64 okz]) ∧ FaT (fun j => j = gf ∨ j = gg) w' y v) ∧ Below Y.heap.size Y w') := ⟨fun Y a c q1 q2 => by
                rw [hy, hokz]
                exact shape_st x a c Y _ q1 q2 IV.out.few op g n⟩
              have CB : Hd (∀ Y a c, StR (fun j => j = gf ∨ j = gg) Y a c x.F → (∀ j, (j = gf ∨ j = gg) → j < Y.heap.size) → Calls Try.prog 15 #[.agg #[.int .u64 x.r, .int .i64 x.g, .int .i64 x.n, .int .i64 x.o, .slice a x.F.length c], .int .i64 op, .int .i64 g, .int .i64 n] Y fun e w' => (∃ v, e = .returned (.tuple #[v, .int .i64 okz]) ∧ FaT (fun j => j = gf ∨ j = gg) w' y v) ∧ Below Y.heap.size Y w') := ⟨fun Y a c q1 q2 => by
                rw [hy, hokz]
                exact rshape_st x a c Y _ q1 q2 IV.out.few op g n⟩
              have IY0 : Hd (okz = 0 → IvP (k + 1) y) := ⟨fun e => by rw [hy]; exact IV.out.shape (by rw [← hokz]; exact e)⟩
              clear hy hokz
              obtain ⟨a3, c3, k3, r3⟩ := H14.out.1.f
              obtain ⟨⟨x0, x1, x2, x3, x4⟩, -⟩ := k3.fair
              have CC := CA.out w14 a3 c3 r3 H14.out.1.mv
              clear k3 r3
              go_wp2_with fail
              go_at_call 14
              refine CC.mono ?_
              rintro e w15 ⟨⟨v, rfl, a5, c5, rfl, s5⟩, b15⟩
              clear CC CA x0 x1 x2 x3 x4 z0 z1 z2 z3 z4 z5 z6 z7
              obtain ⟨w16, hw16⟩ : ∃ W, W = w15.alloc (.cells #[.int .u64 y.r, .int .i64 y.g, .int .i64 y.n, .int .i64 y.o, .slice a5 y.F.length c5] 25) := ⟨_, rfl⟩
              have BB : Below w15.heap.size w15 w16 := by rw [hw16]; exact alloc_below _ _
              have NN : Blk w16 w15.heap.size 25 (faA y.r y.g y.n y.o (.slice a5 y.F.length c5)) := by rw [hw16]; exact Blk.new _ _ _
              obtain ⟨g1, hg1⟩ : ∃ g, g = w15.heap.size := ⟨_, rfl⟩
              rw [← hg1] at NN
              have b14 := b15.trans (BB.mono b15.size)
              have H16 : Hd (PF w w16 gf gg x ∧ Below w14.heap.size w14 w16 ∧ Blk w16 g1 25 (faA y.r y.g y.n y.o (.slice a5 y.F.length c5)) ∧ StR (fun j => j = gf ∨ j = gg) w16 a5 c5 y.F ∧ Blk w16 ob 54 #[.int .i64 dd, .slice ha hn' hc', .int .i64 t0, .int .i64 t1, .int .i64 t2, .int .i64 t3, .int .i64 t4, .int .i64 op] ∧ g1 ≠ gf ∧ g1 ≠ gg) := ⟨H14.out.1.carry b14, b14, NN, s5.step (Kept.of_below BB _) (fun _ _ e => e), H14.out.2.1.kept (Kept.of_below b14 (fun _ => False)) (fun h => h), by have := H14.out.1.hi; have := H14.out.1.lt; have := b15.size; omega, by have := H14.out.1.hi; have := b15.size; omega⟩
              clear s5 b15 BB NN b14
              go_upto_region 17 with fail
              rw [← hw16, ← hg1]
              clear hw16 hg1
              obtain ⟨a4, c4, k4, r4⟩ := H16.out.1.g
              obtain ⟨⟨x0, x1, x2, x3, x4⟩, -⟩ := k4.fair
              have CC := CB.out w16 a4 c4 r4 H16.out.1.mv
              obtain ⟨z0, z1, z2, z3, z4, z5, z6, z7⟩ := H16.out.2.2.2.2.1.sc
              clear k4 r4
              go_wp2_with fail
              go_at_call 15
              refine CC.mono ?_
              rintro e w17 ⟨⟨v, rfl, a6, c6, rfl, s6⟩, b17⟩
              clear CC CB x0 x1 x2 x3 x4 z0 z1 z2 z3 z4 z5 z6 z7
              obtain ⟨wb, hwb⟩ : ∃ W, W = w17.alloc (.cells #[.int .u64 y.r, .int .i64 y.g, .int .i64 y.n, .int .i64 y.o, .slice a6 y.F.length c6] 25) := ⟨_, rfl⟩
              have BB : Below w17.heap.size w17 wb := by rw [hwb]; exact alloc_below _ _
              have NN : Blk wb w17.heap.size 25 (faA y.r y.g y.n y.o (.slice a6 y.F.length c6)) := by rw [hwb]; exact Blk.new _ _ _
              obtain ⟨g2, hg2⟩ : ∃ g, g = w17.heap.size := ⟨_, rfl⟩
              rw [← hg2] at NN
              have b14 := b17.trans (BB.mono b17.size)
              have HB : Hd (PF w wb gf gg x ∧ Below w14.heap.size w14 wb ∧ Blk wb g1 25 (faA y.r y.g y.n y.o (.slice a5 y.F.length c5)) ∧ StR (fun j => j = gf ∨ j = gg) wb a5 c5 y.F ∧ Blk wb g2 25 (faA y.r y.g y.n y.o (.slice a6 y.F.length c6)) ∧ StR (fun j => j = gf ∨ j = gg) wb a6 c6 y.F ∧ (g1 ≠ gf ∧ g1 ≠ gg ∧ g2 ≠ gf ∧ g2 ≠ gg)) := ⟨H16.out.1.carry b14, H16.out.2.1.trans (b14.mono H16.out.2.1.size), H16.out.2.2.1.kept (Kept.of_below b14 (fun _ => False)) (fun h => h), H16.out.2.2.2.1.step (Kept.of_below b14 _) (fun _ _ e => e), NN, s6.step (Kept.of_below BB _) (fun _ _ e => e), H16.out.2.2.2.2.2.1, by have := H16.out.2.2.2.2.2.2; exact this, by have := H16.out.1.hi; have := H16.out.1.lt; have := b17.size; omega, by have := H16.out.1.hi; have := b17.size; omega⟩
              clear s6 b17 BB NN b14 H16
              go_upto_region 18 with fail
              rw [← hwb, ← hg2]
              clear hwb hg2
              by_cases hz : okz = 0
              · skip
                have hz' : (okz == 0) = true := by simp [hz]
                have IY : Hd (IvP (k + 1) y) := ⟨IY0.out hz⟩
                clear hz IY0
                go_upto_region 21 with fail
                refine AnyG.start (T := fun Y => Kept (fun j => j = gf ∨ j = gg) wb.drew Y) (U := fun _ => True) (j0 := 100) (by kernel_rfl) ?_
                obtain ⟨w0, hw0⟩ : ∃ w0, w0 = wb.drew := ⟨_, rfl⟩
                have BD : Below wb.heap.size wb w0 := by rw [hw0]; exact (Below.refl _ _).drew
                rw [← hw0]
                clear hw0
                obtain ⟨W1, W2, eW1, eW2, ⟨u3, k3⟩, ⟨u4, k4⟩, m1, m2, PP⟩ := (HB.out.1.carry BD).put (y := y) (HB.out.2.2.2.1.step (Kept.of_below BD _) (fun _ _ e => e)) (HB.out.2.2.2.2.2.1.step (Kept.of_below BD _) (fun _ _ e => e))
                have PZ0 : Hd (PF w W2 gf gg y ∧ Kept (fun j => j = gf ∨ j = gg) w14 W2) := ⟨PP, (Kept.of_below (HB.out.2.1.trans (BD.mono HB.out.2.1.size)) _).trans m2⟩
                have HE1 := Hd.mk eW1
                have HE2 := Hd.mk eW2
                clear eW1 eW2
                have NE := HB.out.2.2.2.2.2.2
                have X0 : Hd (∀ Y, Kept (fun j => j = gf ∨ j = gg) w0 Y → Blk Y g1 25 (faA y.r y.g y.n y.o (.slice a5 y.F.length c5)) ∧ Blk Y g2 25 (faA y.r y.g y.n y.o (.slice a6 y.F.length c6))) := ⟨fun Y q => ⟨(HB.out.2.2.1.kept (Kept.of_below BD (fun _ => False)) (fun h => h)).kept q (by omega), (HB.out.2.2.2.2.1.kept (Kept.of_below BD (fun _ => False)) (fun h => h)).kept q (by omega)⟩⟩
                have R0 : Kept (fun j => j = gf ∨ j = gg) w0 w0 := Kept.refl _ _
                clear NE BD HB PP
                refine .tq 0 110 R0 ?_ (hy := fun w hSw => by have s := (X0.out w hSw).1.fair.1; go_simp; rfl); simp only [oqA, oqB, oqC]
                refine .tq 1 111 R0 ?_ (hy := fun w hSw => by have s := (X0.out w hSw).2.fair.1; go_simp; rfl); simp only [oqA, oqB, oqC]
                obtain ⟨⟨r0, r1, r2, r3, r4⟩, f0, f1, f2, f3, f4⟩ := k3.fair
                refine AnyG.ready (rs := [2]) (by kernel_rfl) (by simp) ?_
                refine AllG.cons rfl (fun K hK => ?_) AllG.nil
                go_simp
                rw [← HE1.out]
                refine hK.out _ _ ⟨m1, fun _ => trivial⟩ ?_
                clear hK K r0 r1 r2 r3 r4 f0 f1 f2 f3 f4 k3
                obtain ⟨⟨r0, r1, r2, r3, r4⟩, f0, f1, f2, f3, f4⟩ := k4.fair
                refine AnyG.ready (rs := [3]) (by kernel_rfl) (by simp) ?_
                refine AllG.cons rfl (fun K hK => ?_) AllG.nil
                go_simp
                rw [← HE2.out]
                refine hK.out _ _ ⟨m2, fun _ => trivial⟩ ?_
                clear hK K r0 r1 r2 r3 r4 f0 f1 f2 f3 f4 k4
                refine AnyG.done (by kernel_rfl) ?_ _
                obtain ⟨wz, hwz⟩ : ∃ wz, wz = W2 := ⟨_, rfl⟩
                have PZ : Hd (PF w wz gf gg y ∧ Kept (fun j => j = gf ∨ j = gg) w14 wz) := ⟨by rw [hwz]; exact PZ0.out⟩
                rw [← hwz]
                clear hwz PZ0 X0 R0 m1 m2 HE1 HE2
                obtain ⟨a3, c3, k3, r3⟩ := PZ.out.1.f
                obtain ⟨a4, c4, k4, r4⟩ := PZ.out.1.g
                obtain ⟨⟨x0, x1, x2, x3, x4⟩, -⟩ := k3.fair
                obtain ⟨⟨y0, y1, y2, y3, y4⟩, -⟩ := k4.fair
                have CC := same22_ok y.r y.g y.n y.o a3 a4 c3 c4 y.F wz (r3.read (Kept.refl _ _)) (r4.read (Kept.refl _ _)) IY.out.few
                clear k3 k4 r3 r4
                go_upto_region 42 with fail
                go_wp2_with fail
                go_at_call 16
                refine CC.mono ?_
                rintro e v1 ⟨rfl, b1⟩
                clear CC x0 x1 x2 x3 x4 y0 y1 y2 y3 y4
                have P1 : Hd (PF w v1 gf gg y) := ⟨PZ.out.1.carry b1⟩
                obtain ⟨k3, k4, r3, r4⟩ := TL.out v1 (PZ.out.2.trans (Kept.of_below b1 _))
                obtain ⟨⟨x0, x1, x2, x3, x4⟩, -⟩ := k3.fair
                obtain ⟨⟨y0, y1, y2, y3, y4⟩, -⟩ := k4.fair
                have CC := same22_ok x.r x.g x.n x.o ao aw co cw x.F v1 r4 r3 IV.out.few
                clear k3 k4 r3 r4 b1 PZ TL
                go_wp2_with fail
                go_at_call 16
                refine CC.mono ?_
                rintro e v2 ⟨rfl, b2⟩
                clear CC x0 x1 x2 x3 x4 y0 y1 y2 y3 y4
                have PE : Hd (PF w v2 gf gg y) := ⟨P1.out.carry b2⟩
                clear P1 b2
                go_wp2_with fail
                go_roundw
                case rel => exact ⟨k + 1, y, by omega, by omega, by go_num, IY.out, PE.out⟩
                case measure => simp [intOf]; omega
              · skip
                have hz' : (okz == 0) = false := by simp [hz]
                clear hz IY0
                obtain ⟨wz, hwz⟩ : ∃ wz, wz = wb := ⟨_, rfl⟩
                have PZ : Hd (PF w wz gf gg x ∧ Kept (fun j => j = gf ∨ j = gg) w14 wz) := ⟨by rw [hwz]; exact ⟨HB.out.1, Kept.of_below HB.out.2.1 _⟩⟩
                have IY : Hd (IvP (k + 1) x) := ⟨IV.out.more⟩
                rw [← hwz]
                clear hwz HB
                obtain ⟨a3, c3, k3, r3⟩ := PZ.out.1.f
                obtain ⟨a4, c4, k4, r4⟩ := PZ.out.1.g
                obtain ⟨⟨x0, x1, x2, x3, x4⟩, -⟩ := k3.fair
                obtain ⟨⟨y0, y1, y2, y3, y4⟩, -⟩ := k4.fair
                have CC := same22_ok x.r x.g x.n x.o a3 a4 c3 c4 x.F wz (r3.read (Kept.refl _ _)) (r4.read (Kept.refl _ _)) IY.out.few
                clear k3 k4 r3 r4
                go_upto_region 42 with fail
                go_wp2_with fail
                go_at_call 16
                refine CC.mono ?_
                rintro e v1 ⟨rfl, b1⟩
                clear CC x0 x1 x2 x3 x4 y0 y1 y2 y3 y4
                have P1 : Hd (PF w v1 gf gg x) := ⟨PZ.out.1.carry b1⟩
                obtain ⟨k3, k4, r3, r4⟩ := TL.out v1 (PZ.out.2.trans (Kept.of_below b1 _))
                obtain ⟨⟨x0, x1, x2, x3, x4⟩, -⟩ := k3.fair
                obtain ⟨⟨y0, y1, y2, y3, y4⟩, -⟩ := k4.fair
                have CC := same22_ok x.r x.g x.n x.o ao aw co cw x.F v1 r4 r3 IV.out.few
                clear k3 k4 r3 r4 b1 PZ TL
                go_wp2_with fail
                go_at_call 16
                refine CC.mono ?_
                rintro e v2 ⟨rfl, b2⟩
                clear CC x0 x1 x2 x3 x4 y0 y1 y2 y3 y4
                have PE : Hd (PF w v2 gf gg x) := ⟨P1.out.carry b2⟩
                clear P1 b2
                go_wp2_with fail
                go_roundw
                case rel => exact ⟨k + 1, x, by omega, by omega, by go_num, IY.out, PE.out⟩
                case measure => simp [intOf]; omega
        · obtain rfl : k = 120 := by omega
          have i1 : ((120 : Nat) : Int) < (sn : Int) := by omega
          have Q : Hd (Below w.heap.size w wr) := ⟨P.out.bel⟩
          clear P
          go_wp2_with fail
          go_ret
          exact ⟨rfl, Q.out⟩
      · obtain rfl : k = sn := by omega
        have Q : Hd (Below w.heap.size w wr) := ⟨P.out.bel⟩
        clear P
        go_wp2_with fail
        go_ret
        exact ⟨rfl, Q.out⟩
  · have he' : (e0 != 0) = true := by simp [he]
    have Q : Hd (Below w.heap.size w w6) := ⟨P6.out.bel⟩
    clear he P6 HI0
    go_wp2_with fail
    go_ret
    exact ⟨rfl, Q.out⟩
end Go.Proofs.Ytemmkkcfjhmomaa
