/-
  'copiedRules' of fill: rules in memory of their own.
-/
import Derived.Test.YtijjpblmnlednaaGreatDoorE23
import Derived.Test.YtijjpblmnlednaaGreatDoorE13
namespace Go.Proofs.YtijjpblmnlednaaGreatDoor
open Go.RowKit
structure FRl (w : World) (rs : List Rl) (e : Ending) (w' : World) : Prop where
  ex : ∃ v', e = .returned v' ∧ RlW w.heap.size w' v' rs
  bel : Below w.heap.size w w'
/-- Rules of which i are copied. -/
structure CR (w wr : World) (rs : List Rl) (v : Value) (Q : List Q5) (i : Nat) : Prop where
  bel : Below w.heap.size w wr
  ex : ∃ Q' : List Q5, Q'.length = rs.length ∧ wr.ownsRow w.heap.size 50 5 v rs.length (q5C Q') ∧ (∀ k (h : k < rs.length) (h' : k < Q'.length), k < i → RuW w.heap.size wr Q'[k] rs[k]) ∧ ∀ k, i ≤ k → Q'[k]? = Q[k]?
theorem CR.done {w wr : World} {rs : List Rl} {v : Value} {Q : List Q5} (h : CR w wr rs v Q rs.length) : FRl w rs (.returned v) wr := by
  obtain ⟨Q', hl, ho, hr, -⟩ := h.ex
  exact ⟨⟨v, rfl, Q', hl, ho, fun k h1 h2 => hr k h1 h2 h1⟩, h.bel⟩
/-- One more is written. -/
theorem CR.step {w wr w5 : World} {rs : List Rl} {g n c : Nat} {Q : List Q5} {i : Nat} (h : CR w wr rs (.slice (some ⟨g, 0, none⟩) n c) Q i) (hi : i < rs.length) (hn : n = rs.length) (b5 : Below wr.heap.size wr w5) (q : Q5) (hq : RuW w.heap.size w5 q rs[i]) :
    (∃ y0 y1 y2 y3 y4, w5.cell? ⟨g, i * 5, none⟩ = some y0 ∧ w5.cell? ⟨g, i * 5 + 1, none⟩ = some y1 ∧ w5.cell? ⟨g, i * 5 + 2, none⟩ = some y2 ∧ w5.cell? ⟨g, i * 5 + 3, none⟩ = some y3 ∧ w5.cell? ⟨g, i * 5 + 4, none⟩ = some y4) ∧ (∀ j, w5.frozen? ⟨g, j, none⟩ = false) ∧
    CR w (((((w5.setCell ⟨g, i * 5, none⟩ q.v0).setCell ⟨g, i * 5 + 1, none⟩ q.v1).setCell ⟨g, i * 5 + 2, none⟩ q.v2).setCell ⟨g, i * 5 + 3, none⟩ q.v3).setCell ⟨g, i * 5 + 4, none⟩ q.v4) rs (.slice (some ⟨g, 0, none⟩) n c) Q (i + 1) := by
  subst hn
  obtain ⟨Q', hl, ho, hr, hs⟩ := h.ex
  have K5 : Kept (fun _ => False) wr w5 := Kept.of_below b5 _
  have o5 := owns_off ho K5 (Off.none _ _)
  obtain ⟨a, c', e, -, hrow⟩ := owns_read o5
  injection e with e1 _ e3
  subst e3
  obtain ⟨g', cur, e4, hB, hg, hsz, hcs⟩ := hrow (by omega)
  rw [e4] at e1
  injection e1 with e1
  injection e1 with e1
  subst e1
  have at5 : ∀ j, j < 5 → ∃ y, w5.cell? ⟨g, i * 5 + j, none⟩ = some y := fun j hj => by
    have h1 := q5C_at Q' i j (by omega) hj
    have h2 : j < (q5L Q'[i]).length := hj
    rw [List.getElem?_eq_getElem h2] at h1
    exact ⟨_, hcs _ _ h1⟩
  obtain ⟨y0, z0⟩ := at5 0 (by decide)
  obtain ⟨y1, z1⟩ := at5 1 (by decide)
  obtain ⟨y2, z2⟩ := at5 2 (by decide)
  obtain ⟨y3, z3⟩ := at5 3 (by decide)
  obtain ⟨y4, z4⟩ := at5 4 (by decide)
  refine ⟨⟨y0, y1, y2, y3, y4, z0, z1, z2, z3, z4⟩, fun j => hg.frozen j, ?_⟩
  have KS : Kept (fun k => k = g) w5 (((((w5.setCell ⟨g, i * 5, none⟩ q.v0).setCell ⟨g, i * 5 + 1, none⟩ q.v1).setCell ⟨g, i * 5 + 2, none⟩ q.v2).setCell ⟨g, i * 5 + 3, none⟩ q.v3).setCell ⟨g, i * 5 + 4, none⟩ q.v4) := ((((((Kept.refl (fun k => k = g) w5).setCell _ _ (.inl rfl)).setCell _ _ (.inl rfl)).setCell _ _ (.inl rfl)).setCell _ _ (.inl rfl)).setCell _ _ (.inl rfl))
  have o9 := off_blk hg (by decide : 50 ≠ 9)
  have own := owns_set (owns_set (owns_set (owns_set (owns_set o5 (i * 5) q.v0) (i * 5 + 1) q.v1) (i * 5 + 2) q.v2) (i * 5 + 3) q.v3) (i * 5 + 4) q.v4
  rw [q5C_set Q' i q (by omega)] at own
  have b0 := h.bel
  have bs := b5.size
  have b1 := b0.size
  refine ⟨(b0.trans (b5.mono b1)).trans (KS.below (by omega) (fun k hk => by rw [hk]; exact hB)), Q'.set i q, by simpa using hl, own, fun k h1 h2 h3 => ?_, fun k hk => ?_⟩
  · by_cases e : k = i
    · subst e
      rw [List.getElem_set_self]
      exact hq.off KS o9
    · rw [List.getElem_set_ne (fun h => e h.symm)]
      exact ((hr k h1 (by simpa using h2) (by omega)).off K5 (Off.none _ _)).off KS o9
  · rw [List.getElem?_set_ne (by omega)]
    exact hs k (by omega)
set_option maxRecDepth 20000 in
set_option maxHeartbeats 4000000 in
theorem cpRules_ok (v : Value) (rs : List Rl) (w : World) (h : RlR w v rs) (h8 : rs.length ≤ 1000) (hN : ∀ r ∈ rs, RlN 1000 r) : Calls Tryz.prog 55 #[v] w fun e w' => FRl w rs e w' := by
  obtain ⟨a, c, Q, rfl, hQ, hn, hru⟩ := h.five
  have CP := cpRl_ok a rs.length c (q5C Q) w (by rw [q5C_len, hQ]) hn (q5C_one Q rs hQ hru) h8
  have HRU : Hd _ := ⟨And.intro hQ (And.intro hru hN)⟩
  obtain ⟨n, hnn⟩ : ∃ n, n = rs.length := ⟨_, rfl⟩
  have HN : Hd (n = rs.length) := ⟨hnn⟩
  rw [← hnn] at CP h8 ⊢
  clear h hQ hn hru hN hnn
  go_enter Tryz.func55, Tryz.ntmps55
  go_wp2_with fail
  go_at_call 101
  refine CP.mono ?_
  rintro e w1 ⟨⟨v1, rfl, o1⟩, b1⟩
  have C1 : Hd (CR w w1 rs v1 Q 0) := ⟨b1, Q, HRU.out.1, by rw [← HN.out]; exact o1, fun k _ _ h => absurd h (Nat.not_lt_zero _), fun _ _ => rfl⟩
  obtain ⟨a1, c1, rfl, hc1, -⟩ := owns_read o1
  clear CP o1 b1
  go_upto_region 3 with fail
  go_loopw [10] (fun i wr => ∃ k : Nat, k ≤ n ∧ i = .int .i64 k ∧ Hd (CR w wr rs (.slice a1 n c1) Q k)) (fun i _ => n - (intOf i).toNat)
  case atStart => exact ⟨0, Nat.zero_le _, rfl, C1⟩
  case round =>
    obtain ⟨k, hk, rfl, hC⟩ := hrel
    clear C1
    by_cases hlt : k < n
    · have hkr : k < rs.length := by rw [← HN.out]; exact hlt
      have hkQ : k < Q.length := by rw [HRU.out.1]; exact hkr
      obtain ⟨Q', hl', ho, hr', hs'⟩ := hC.out.ex
      obtain ⟨a2, c2, e2, -, hrow⟩ := owns_read ho
      injection e2 with q1 q2 q3
      subst q1 q3
      obtain ⟨g, cur, rfl, hB, hg, hsz, hcs⟩ := hrow (by omega)
      have Ek : Q'[k]'(by omega) = Q[k] := by
        have := hs' k (Nat.le_refl _)
        rw [List.getElem?_eq_getElem (by omega), List.getElem?_eq_getElem hkQ] at this
        exact Option.some.inj this
      have at5 : ∀ j (h : j < 5), wr.cell? ⟨g, k * 5 + j, none⟩ = some ((q5L Q[k])[j]'h) := fun j hj => by
        have h1 := q5C_at Q' k j (by omega) hj
        have h2 : j < (q5L Q'[k]).length := hj
        rw [List.getElem?_eq_getElem h2] at h1
        rw [hcs _ _ h1]
        congr 1
        simp only [Ek]
        rfl
      have z0 : wr.cell? ⟨g, k * 5, none⟩ = some Q[k].v0 := at5 0 (by decide)
      have z1 : wr.cell? ⟨g, k * 5 + 1, none⟩ = some Q[k].v1 := at5 1 (by decide)
      have z2 : wr.cell? ⟨g, k * 5 + 2, none⟩ = some Q[k].v2 := at5 2 (by decide)
      have z3 : wr.cell? ⟨g, k * 5 + 3, none⟩ = some Q[k].v3 := at5 3 (by decide)
      have z4 : wr.cell? ⟨g, k * 5 + 4, none⟩ = some Q[k].v4 := at5 4 (by decide)
      have RU : Hd _ := ⟨HRU.out.2.1 k hkr hkQ⟩
      have RN : Hd _ := ⟨HRU.out.2.2 rs[k] (List.getElem_mem hkr)⟩
      have STEP : Hd _ := ⟨fun w5 b5 q hq => hC.out.step (w5 := w5) hkr HN.out b5 q hq⟩
      have HBW : Hd (Below w.heap.size w wr) := ⟨hC.out.bel⟩
      obtain ⟨⟨a0, p0, e0, -⟩, ⟨a1', p1, e1, -⟩, ⟨a2', p2, e2, -⟩, ⟨a3, p3, e3, -⟩, ⟨a4, p4, e4, -⟩⟩ := id RU.out
      have HGL : Hd (g < wr.heap.size) := ⟨hg.lt⟩
      clear at5 hcs hrow ho hr' hs' hC Ek hl' hg hsz hB q2
      generalize Q[k] = q at *
      generalize rs[k] = r at *
      obtain ⟨qv0, qv1, qv2, qv3, qv4⟩ := q
      simp only at z0 z1 z2 z3 z4 RU e0 e1 e2 e3 e4
      generalize hn0 : r.users.length = m0 at e0
      generalize hn1 : r.groups.length = m1 at e1
      generalize hn2 : r.verbs.length = m2 at e2
      generalize hn3 : r.resources.length = m3 at e3
      generalize hn4 : r.spaces.length = m4 at e4
      clear hn0 hn1 hn2 hn3 hn4
      have HK : Hd (k < n) := ⟨hlt⟩
      have hgl := HGL.out
      have NB := Blk.new wr 50 #[qv0, qv1, qv2, qv3, qv4]
      have AL := alloc_below wr (.cells #[qv0, qv1, qv2, qv3, qv4] 50)
      subst e0 e1 e2 e3 e4
      go_upto_region 5 with fail
      clear z0 z1 z2 z3 z4
      generalize wr.alloc _ = w2 at *
      have DR : Below w2.heap.size w2 w2.drew := ⟨rfl, rfl, rfl, Nat.le_refl _, fun _ _ => rfl⟩
      have B0 : Below wr.heap.size wr w2.drew := AL.trans (DR.mono AL.size)
      have A0 := NB.kept (Kept.of_below DR (fun _ => False)) id
      refine AnyG.start (T := fun w' => Blk w' wr.heap.size 50 #[.slice a0 m0 p0, .slice a1' m1 p1, .slice a2' m2 p2, .slice a3 m3 p3, .slice a4 m4 p4]) (U := fun _ => True) (j0 := 100) (by kernel_rfl) ?_
      clear DR AL NB
      generalize w2.drew = w0 at *
      have HS := HBW.out.size
      refine .tq 0 15 A0 ?_; simp only [tkA, tkB, tkC]
      refine .tq 1 16 A0 ?_; simp only [tkA, tkB, tkC]
      refine .tq 2 17 A0 ?_; simp only [tkA, tkB, tkC]
      refine .tq 3 18 A0 ?_ (hy := fun w hSw => by have s4 := hSw.cellv (v := .slice a0 m0 p0) 0 rfl; go_simp; rfl); simp only [tkA, tkB, tkC]
      refine .tq 5 20 A0 ?_; simp only [tkA, tkB, tkC]
      refine .tq 6 21 A0 ?_ (hy := fun w hSw => by have s4 := hSw.cellv (v := .slice a1' m1 p1) 1 rfl; go_simp; rfl); simp only [tkA, tkB, tkC]
      refine .tq 8 23 A0 ?_; simp only [tkA, tkB, tkC]
      refine .tq 9 24 A0 ?_ (hy := fun w hSw => by have s4 := hSw.cellv (v := .slice a2' m2 p2) 2 rfl; go_simp; rfl); simp only [tkA, tkB, tkC]
      refine .tq 11 26 A0 ?_; simp only [tkA, tkB, tkC]
      refine .tq 12 27 A0 ?_ (hy := fun w hSw => by have s4 := hSw.cellv (v := .slice a3 m3 p3) 3 rfl; go_simp; rfl); simp only [tkA, tkB, tkC]
      refine .tq 14 29 A0 ?_; simp only [tkA, tkB, tkC]
      refine .tq 15 30 A0 ?_ (hy := fun w hSw => by have s4 := hSw.cellv (v := .slice a4 m4 p4) 4 rfl; go_simp; rfl); simp only [tkA, tkB, tkC]
      refine AnyG.ready (rs := [4]) (by kernel_rfl) (by simp) ?_
      refine AllG.cons rfl (fun K hK => ?_) AllG.nil
      go_simp
      refine (cpT_ok _ _ w0 (RU.out.1.carry (HBW.out.trans (B0.mono HBW.out.size))) RN.out.1).mono ?_
      rintro e wk1 ⟨⟨u1, rfl, o1⟩, -, b1⟩
      obtain ⟨x1, d1, rfl, -⟩ := o1.shape
      have Ak1 := A0.kept (Kept.of_below b1 (fun _ => False)) id
      have Bk1 : Below wr.heap.size wr wk1 := B0.trans (b1.mono B0.size)
      replace o1 := OwnT.mono (B' := w.heap.size) o1 (Nat.le_trans HS B0.size)
      refine hK.out _ _ ⟨Ak1, fun _ => trivial⟩ ?_
      clear hK K b1 A0 B0
      refine AnyG.ready (rs := [7]) (by kernel_rfl) (by simp) ?_
      refine AllG.cons rfl (fun K hK => ?_) AllG.nil
      go_simp
      refine (cpT_ok _ _ wk1 (RU.out.2.1.carry (HBW.out.trans (Bk1.mono HBW.out.size))) RN.out.2.1).mono ?_
      rintro e wk2 ⟨⟨u2, rfl, o2⟩, -, b2⟩
      obtain ⟨x2, d2, rfl, -⟩ := o2.shape
      have Ak2 := Ak1.kept (Kept.of_below b2 (fun _ => False)) id
      have Bk2 : Below wr.heap.size wr wk2 := Bk1.trans (b2.mono Bk1.size)
      replace o1 := o1.off (Kept.of_below b2 (fun _ => False)) (Off.none _ _)
      replace o2 := OwnT.mono (B' := w.heap.size) o2 (Nat.le_trans HS Bk1.size)
      refine hK.out _ _ ⟨Ak2, fun _ => trivial⟩ ?_
      clear hK K b2 Ak1 Bk1
      refine AnyG.ready (rs := [10]) (by kernel_rfl) (by simp) ?_
      refine AllG.cons rfl (fun K hK => ?_) AllG.nil
      go_simp
      refine (cpT_ok _ _ wk2 (RU.out.2.2.1.carry (HBW.out.trans (Bk2.mono HBW.out.size))) RN.out.2.2.1).mono ?_
      rintro e wk3 ⟨⟨u3, rfl, o3⟩, -, b3⟩
      obtain ⟨x3, d3, rfl, -⟩ := o3.shape
      have Ak3 := Ak2.kept (Kept.of_below b3 (fun _ => False)) id
      have Bk3 : Below wr.heap.size wr wk3 := Bk2.trans (b3.mono Bk2.size)
      replace o1 := o1.off (Kept.of_below b3 (fun _ => False)) (Off.none _ _)
      replace o2 := o2.off (Kept.of_below b3 (fun _ => False)) (Off.none _ _)
      replace o3 := OwnT.mono (B' := w.heap.size) o3 (Nat.le_trans HS Bk2.size)
      refine hK.out _ _ ⟨Ak3, fun _ => trivial⟩ ?_
      clear hK K b3 Ak2 Bk2
      refine AnyG.ready (rs := [13]) (by kernel_rfl) (by simp) ?_
      refine AllG.cons rfl (fun K hK => ?_) AllG.nil
      go_simp
      refine (cpT_ok _ _ wk3 (RU.out.2.2.2.1.carry (HBW.out.trans (Bk3.mono HBW.out.size))) RN.out.2.2.2.1).mono ?_
      rintro e wk4 ⟨⟨u4, rfl, o4⟩, -, b4⟩
      obtain ⟨x4, d4, rfl, -⟩ := o4.shape
      have Ak4 := Ak3.kept (Kept.of_below b4 (fun _ => False)) id
      have Bk4 : Below wr.heap.size wr wk4 := Bk3.trans (b4.mono Bk3.size)
      replace o1 := o1.off (Kept.of_below b4 (fun _ => False)) (Off.none _ _)
      replace o2 := o2.off (Kept.of_below b4 (fun _ => False)) (Off.none _ _)
      replace o3 := o3.off (Kept.of_below b4 (fun _ => False)) (Off.none _ _)
      replace o4 := OwnT.mono (B' := w.heap.size) o4 (Nat.le_trans HS Bk3.size)
      refine hK.out _ _ ⟨Ak4, fun _ => trivial⟩ ?_
      clear hK K b4 Ak3 Bk3
      refine AnyG.ready (rs := [16]) (by kernel_rfl) (by simp) ?_
      refine AllG.cons rfl (fun K hK => ?_) AllG.nil
      go_simp
      refine (cpT_ok _ _ wk4 (RU.out.2.2.2.2.carry (HBW.out.trans (Bk4.mono HBW.out.size))) RN.out.2.2.2.2).mono ?_
      rintro e wk5 ⟨⟨u5, rfl, o5⟩, -, b5⟩
      obtain ⟨x5, d5, rfl, -⟩ := o5.shape
      have Ak5 := Ak4.kept (Kept.of_below b5 (fun _ => False)) id
      have Bk5 : Below wr.heap.size wr wk5 := Bk4.trans (b5.mono Bk4.size)
      replace o1 := o1.off (Kept.of_below b5 (fun _ => False)) (Off.none _ _)
      replace o2 := o2.off (Kept.of_below b5 (fun _ => False)) (Off.none _ _)
      replace o3 := o3.off (Kept.of_below b5 (fun _ => False)) (Off.none _ _)
      replace o4 := o4.off (Kept.of_below b5 (fun _ => False)) (Off.none _ _)
      replace o5 := OwnT.mono (B' := w.heap.size) o5 (Nat.le_trans HS Bk4.size)
      refine hK.out _ _ ⟨Ak5, fun _ => trivial⟩ ?_
      clear hK K b5 Ak4 Bk4
      refine .tq 17 32 Ak5 ?_; simp only [tkA, tkB, tkC]
      refine .tq 18 33 Ak5 ?_; simp only [tkA, tkB, tkC]
      obtain ⟨⟨y0, y1, y2, y3, y4, z0, z1, z2, z3, z4⟩, fz, NX⟩ := STEP.out wk5 Bk5 ⟨_, _, _, _, _⟩ ⟨o1, o2, o3, o4, o5⟩
      have f0 := fz (k * 5)
      have f1 := fz (k * 5 + 1)
      have f2 := fz (k * 5 + 2)
      have f3 := fz (k * 5 + 3)
      have f4 := fz (k * 5 + 4)
      have HX : Hd _ := ⟨NX⟩
      clear fz NX STEP o1 o2 o3 o4 o5
      refine AnyG.ready (rs := [19]) (by kernel_rfl) (by simp) ?_
      refine AllG.cons rfl (fun K hK => ?_) AllG.nil
      go_simp
      refine hK.out _ _ ⟨((((Ak5.other (by simp; omega) _).other (by simp; omega) _).other (by simp; omega) _).other (by simp; omega) _).other (by simp; omega) _, fun _ => trivial⟩ ?_
      clear hK K z0 z1 z2 z3 z4 f0 f1 f2 f3 f4
      refine AnyG.done (by kernel_rfl) ?_ _
      go_wp2_with fail
      go_roundw
      case rel => exact ⟨k + 1, HK.out, by go_num, HX⟩
      case measure => have := HK.out; simp [intOf]; omega
    · obtain rfl : k = n := by omega
      go_wp2_with fail
      go_ret
      have e := hC.out
      have e2 := HN.out
      subst e2
      exact e.done
end Go.Proofs.YtijjpblmnlednaaGreatDoor
