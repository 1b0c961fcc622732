/-
  'SameRules' of the reference, whatever the rules are. Condition: they lie in memory.
-/
import Derived.Test.YtfollcabppkihaaDoorD39
import Derived.Test.YtfollcabppkihaaDoorD9
namespace Go.Proofs.YtfollcabppkihaaDoor
open Go.RowKit

/-- What is not asked for is passed by. -/
theorem AnyG.skipAt {P : Program} {ops : Array Oper} {Q : Exit → Act → World → Prop} {md : Region.Mode} {T U : World → Prop} {j0 : Nat} (i d : Nat) {oi : Oper} {n : Nat} {l : Array Bool} {a : Act} {w : World} (hi : ops[i]? = some oi) (hd : oi.dst = some d)
    (hs : Region.noSelect ops = true) (hf : Region.free md ops l i = true) (hr : (Region.ready md ops l).contains i = true) (hne : i ≠ j0)
    (hQ : ∀ c a w, Q (.panic c) (a.put oi.dst undef) w → Q (.panic c) a w) (hT : T w ∧ (l.getD j0 true = false → U w)) (hw : Region.wanted oi (yielded ops a.tmps) = false)
    (h : AnyG P md ops Q T U j0 n (l.setIfInBounds i true) ⟨a.tmps.setIfInBounds d undef, a.defers⟩ w) : AnyG P md ops Q T U j0 (n + 1) l a w :=
  AnyG.take hi hs hf hr hne hQ (.inr ⟨hw, rfl⟩) hT (by rw [put_at hd]; exact h)
/-- A world that was only drawn from. -/
def Drw (w W : World) : Prop := ∃ n, W = w.drewN n
theorem Drw.cell {w W : World} (h : Drw w W) {p : Addr} {v : Value} (hc : w.cell? p = some v) : W.cell? p = some v := by
  obtain ⟨n, rfl⟩ := h
  exact hc
theorem lsr_drw {w W : World} (hd : Drw w W) {v v' : Value} {L M : List ByteArray} (h : LsR w v L) (h' : LsR w v' M) :
    Calls Tryd.prog 48 #[v, v'] W fun e w' => e = .returned (.bool (decide (L = M))) ∧ Drw w w' := by
  obtain ⟨n, rfl⟩ := hd
  have := lsr_dec h h' n 0
  refine (show Calls Tryd.prog 48 #[v, v'] (w.drewN n) _ from this).mono ?_
  rintro e w' ⟨rfl, k, rfl⟩
  exact ⟨rfl, n + 0 + k, by rw [World.drewN_drewN, World.drewN_drewN, Nat.add_assoc]⟩

set_option maxRecDepth 20000 in
set_option maxHeartbeats 32000000 in
theorem samer_dec {w : World} {v v' : Value} {rs ss : List Rl} (h : RlR w v rs) (h' : RlR w v' ss) :
    Calls Tryd.prog 26 #[v, v'] w fun e w' => e = .returned (.bool (@decide (rs = ss) (Classical.propDecidable _))) ∧ Drw w w' := by
  obtain ⟨a, c, rfl, hm, R⟩ := h
  obtain ⟨a', c', rfl, hm', R'⟩ := h'
  by_cases hl : rs.length = ss.length
  · obtain ⟨n, hn⟩ : ∃ n, n = rs.length := ⟨_, rfl⟩
    have hn' : n = ss.length := by rw [hn]; exact hl
    have HE : Hd ((∀ j (h : j < rs.length) (h' : j < ss.length), rs[j] = ss[j]) → @decide (rs = ss) (Classical.propDecidable _) = true) := ⟨fun h => @decide_eq_true _ (Classical.propDecidable _) (List.ext_getElem hl h)⟩
    have HNE : Hd (∀ j (h : j < rs.length) (h' : j < ss.length), rs[j] ≠ ss[j] → @decide (rs = ss) (Classical.propDecidable _) = false) := ⟨fun j h h' hne => @decide_eq_false _ (Classical.propDecidable _) (fun e => hne (by subst e; rfl))⟩
    rw [← hn] at hm ⊢
    rw [← hn'] at hm' ⊢
    have hn9 : n ≤ 9223372036854775807 := hm
    have HN : Hd (n = rs.length ∧ n = ss.length) := ⟨hn, hn'⟩
    have HR : Hd _ := ⟨R⟩
    have HR' : Hd _ := ⟨R'⟩
    clear R R' hn hm hn' hm' hl
    generalize @decide (rs = ss) (Classical.propDecidable _) = bb at *
    go_enter Tryd.func26, Tryd.ntmps26
    go_wp2_with fail
    go_loopw [5] (fun i wr => ∃ k : Nat, k ≤ n ∧ i = .int .i64 k ∧ Hd (Drw w wr ∧ ∀ j (h : j < rs.length) (h' : j < ss.length), j < k → rs[j] = ss[j])) (fun i _ => n - (intOf i).toNat)
    case atStart => exact ⟨0, Nat.zero_le _, rfl, ⟨⟨0, rfl⟩, fun j _ _ h => absurd h (Nat.not_lt_zero _)⟩⟩
    case round =>
      obtain ⟨k, hk, rfl, hq⟩ := hrel
      by_cases hlt : k < n
      · have hkr : k < rs.length := by rw [← HN.out.1]; exact hlt
        have hks : k < ss.length := by rw [← HN.out.2]; exact hlt
        obtain ⟨g, o1, rfl, hg, C⟩ := HR.out (by omega)
        obtain ⟨g', o2, rfl, hg', C'⟩ := HR'.out (by omega)
        obtain ⟨v0, v1, v2, v3, v4, ⟨x0, x1, x2, x3, x4⟩, l0, l1, l2, l3, l4⟩ := C k hkr
        obtain ⟨z0, z1, z2, z3, z4, ⟨y0, y1, y2, y3, y4⟩, m0, m1, m2, m3, m4⟩ := C' k hks
        have K : Hd (∀ W, Drw w W → (Calls Tryd.prog 48 #[v0, z0] W fun e w' => e = .returned (.bool (decide (rs[k].users = ss[k].users))) ∧ Drw w w') ∧ (Calls Tryd.prog 48 #[v1, z1] W fun e w' => e = .returned (.bool (decide (rs[k].groups = ss[k].groups))) ∧ Drw w w') ∧ (Calls Tryd.prog 48 #[v2, z2] W fun e w' => e = .returned (.bool (decide (rs[k].verbs = ss[k].verbs))) ∧ Drw w w') ∧ (Calls Tryd.prog 48 #[v3, z3] W fun e w' => e = .returned (.bool (decide (rs[k].resources = ss[k].resources))) ∧ Drw w w') ∧ (Calls Tryd.prog 48 #[v4, z4] W fun e w' => e = .returned (.bool (decide (rs[k].spaces = ss[k].spaces))) ∧ Drw w w')) :=
          ⟨fun W d => ⟨lsr_drw d l0 m0, lsr_drw d l1 m1, lsr_drw d l2 m2, lsr_drw d l3 m3, lsr_drw d l4 m4⟩⟩
        have HEq : Hd (rs[k].users = ss[k].users → rs[k].groups = ss[k].groups → rs[k].verbs = ss[k].verbs → rs[k].resources = ss[k].resources → rs[k].spaces = ss[k].spaces → ∀ j (h : j < rs.length) (h' : j < ss.length), j < k + 1 → rs[j] = ss[j]) := ⟨fun e0 e1 e2 e3 e4 j h1 h2 hj => by
          rcases Nat.lt_or_eq_of_le (Nat.le_of_lt_succ hj) with h | h
          · exact hq.out.2 j h1 h2 h
          · subst h
            generalize rs[j] = p at *
            generalize ss[j] = q at *
            obtain ⟨_, _, _, _, _⟩ := p
            obtain ⟨_, _, _, _, _⟩ := q
            simp only at e0 e1 e2 e3 e4
            subst e0 e1 e2 e3 e4
            rfl⟩
        have HNo : Hd (rs[k].users ≠ ss[k].users ∨ rs[k].groups ≠ ss[k].groups ∨ rs[k].verbs ≠ ss[k].verbs ∨ rs[k].resources ≠ ss[k].resources ∨ rs[k].spaces ≠ ss[k].spaces → bb = false) := ⟨fun h => HNE.out k hkr hks (fun e => by rw [e] at h; simp at h)⟩
        obtain ⟨q0, t0, f0⟩ := lsr_shape l0
        obtain ⟨q1, t1, f1⟩ := lsr_shape l1
        obtain ⟨q2, t2, f2⟩ := lsr_shape l2
        obtain ⟨q3, t3, f3⟩ := lsr_shape l3
        obtain ⟨q4, t4, f4⟩ := lsr_shape l4
        obtain ⟨q5, t5, f5⟩ := lsr_shape m0
        obtain ⟨q6, t6, f6⟩ := lsr_shape m1
        obtain ⟨q7, t7, f7⟩ := lsr_shape m2
        obtain ⟨q8, t8, f8⟩ := lsr_shape m3
        obtain ⟨q9, t9, f9⟩ := lsr_shape m4
        have HK : Hd (k < n) := ⟨hlt⟩
        have DW := hq.out.1
        clear C C' l0 l1 l2 l3 l4 m0 m1 m2 m3 m4 hq
        generalize rs[k] = ra at *
        generalize ss[k] = sa at *
        generalize hj0 : ra.users.length = j0 at f0
        generalize hj1 : ra.groups.length = j1 at f1
        generalize hj2 : ra.verbs.length = j2 at f2
        generalize hj3 : ra.resources.length = j3 at f3
        generalize hj4 : ra.spaces.length = j4 at f4
        generalize hj5 : sa.users.length = j5 at f5
        generalize hj6 : sa.groups.length = j6 at f6
        generalize hj7 : sa.verbs.length = j7 at f7
        generalize hj8 : sa.resources.length = j8 at f8
        generalize hj9 : sa.spaces.length = j9 at f9
        subst f0 f1 f2 f3 f4 f5 f6 f7 f8 f9
        clear hj0 hj1 hj2 hj3 hj4 hj5 hj6 hj7 hj8 hj9 hkr hks
        have i1 : (k : Int) < (n : Int) := by omega
        by_cases e0 : ra.users = sa.users
        · have E0 : decide (ra.users = sa.users) = true := decide_eq_true e0
          by_cases e1 : ra.groups = sa.groups
          · have E1 : decide (ra.groups = sa.groups) = true := decide_eq_true e1
            by_cases e2 : ra.verbs = sa.verbs
            · have E2 : decide (ra.verbs = sa.verbs) = true := decide_eq_true e2
              by_cases e3 : ra.resources = sa.resources
              · have E3 : decide (ra.resources = sa.resources) = true := decide_eq_true e3
                by_cases e4 : ra.spaces = sa.spaces
                · have E4 : decide (ra.spaces = sa.spaces) = true := decide_eq_true e4
                  have HQ : Hd (∀ j (h : j < rs.length) (h' : j < ss.length), j < k + 1 → rs[j] = ss[j]) := ⟨HEq.out e0 e1 e2 e3 e4⟩
                  clear HNo HEq e0 e1 e2 e3 e4
                  go_upto_region 6 with fail
                  have T0 : Drw w wr.drew := by obtain ⟨q, hq⟩ := DW; exact ⟨q + 1, by rw [hq]; rfl⟩
                  refine AnyG.start (T := Drw w) (U := fun _ => True) (j0 := 100) (by kernel_rfl) ?_
                  clear DW
                  generalize wr.drew = w0 at *
                  refine .tk 0 17 rfl rfl (by kernel_rfl) (fun _ _ _ h => h) ⟨T0, fun _ => trivial⟩ (by rfl) (fun w hSw => by go_simp; rfl) ?_; simp only [tkA, tkB, tkC]
                  refine .tk 1 18 rfl rfl (by kernel_rfl) (fun _ _ _ h => h) ⟨T0, fun _ => trivial⟩ (by rfl) (fun w hSw => by go_simp; rfl) ?_; simp only [tkA, tkB, tkC]
                  refine .tk 2 19 rfl rfl (by kernel_rfl) (fun _ _ _ h => h) ⟨T0, fun _ => trivial⟩ (by rfl) (fun w hSw => by go_simp; rfl) ?_; simp only [tkA, tkB, tkC]
                  refine .tk 3 20 rfl rfl (by kernel_rfl) (fun _ _ _ h => h) ⟨T0, fun _ => trivial⟩ (by rfl) (fun w hSw => by go_simp; rfl) ?_; simp only [tkA, tkB, tkC]
                  refine .tk 4 21 rfl rfl (by kernel_rfl) (fun _ _ _ h => h) ⟨T0, fun _ => trivial⟩ (by rfl) (fun w hSw => by have s4 := hSw.cell x0; go_simp; rfl) ?_; simp only [tkA, tkB, tkC]
                  refine .tk 5 22 rfl rfl (by kernel_rfl) (fun _ _ _ h => h) ⟨T0, fun _ => trivial⟩ (by rfl) (fun w hSw => by go_simp; rfl) ?_; simp only [tkA, tkB, tkC]
                  refine .tk 6 23 rfl rfl (by kernel_rfl) (fun _ _ _ h => h) ⟨T0, fun _ => trivial⟩ (by rfl) (fun w hSw => by go_simp; rfl) ?_; simp only [tkA, tkB, tkC]
                  refine .tk 7 24 rfl rfl (by kernel_rfl) (fun _ _ _ h => h) ⟨T0, fun _ => trivial⟩ (by rfl) (fun w hSw => by go_simp; rfl) ?_; simp only [tkA, tkB, tkC]
                  refine .tk 8 25 rfl rfl (by kernel_rfl) (fun _ _ _ h => h) ⟨T0, fun _ => trivial⟩ (by rfl) (fun w hSw => by go_simp; rfl) ?_; simp only [tkA, tkB, tkC]
                  refine .tk 9 26 rfl rfl (by kernel_rfl) (fun _ _ _ h => h) ⟨T0, fun _ => trivial⟩ (by rfl) (fun w hSw => by have s4 := hSw.cell y0; go_simp; rfl) ?_; simp only [tkA, tkB, tkC]
                  refine AnyG.ready (rs := [10]) (by kernel_rfl) (by simp) ?_
                  refine AllG.cons rfl (fun K1 hK => ?_) AllG.nil
                  go_simp
                  refine ((K.out _ T0).1).mono ?_
                  rintro e wk1 ⟨rfl, Tk1⟩
                  refine hK.out _ _ ⟨Tk1, fun _ => trivial⟩ ?_
                  clear hK K1 T0
                  rw [E0]
                  refine .tk 11 28 rfl rfl (by kernel_rfl) (fun _ _ _ h => h) ⟨Tk1, fun _ => trivial⟩ (by rfl) (fun w hSw => by go_simp; rfl) ?_; simp only [tkA, tkB, tkC]
                  refine .tk 12 29 rfl rfl (by kernel_rfl) (fun _ _ _ h => h) ⟨Tk1, fun _ => trivial⟩ (by rfl) (fun w hSw => by go_simp; rfl) ?_; simp only [tkA, tkB, tkC]
                  refine .tk 13 30 rfl rfl (by kernel_rfl) (fun _ _ _ h => h) ⟨Tk1, fun _ => trivial⟩ (by rfl) (fun w hSw => by go_simp; rfl) ?_; simp only [tkA, tkB, tkC]
                  refine .tk 14 31 rfl rfl (by kernel_rfl) (fun _ _ _ h => h) ⟨Tk1, fun _ => trivial⟩ (by rfl) (fun w hSw => by go_simp; rfl) ?_; simp only [tkA, tkB, tkC]
                  refine .tk 15 32 rfl rfl (by kernel_rfl) (fun _ _ _ h => h) ⟨Tk1, fun _ => trivial⟩ (by rfl) (fun w hSw => by go_simp; rfl) ?_; simp only [tkA, tkB, tkC]
                  refine .tk 16 33 rfl rfl (by kernel_rfl) (fun _ _ _ h => h) ⟨Tk1, fun _ => trivial⟩ (by rfl) (fun w hSw => by go_simp; rfl) ?_; simp only [tkA, tkB, tkC]
                  refine .tk 17 34 rfl rfl (by kernel_rfl) (fun _ _ _ h => h) ⟨Tk1, fun _ => trivial⟩ (by rfl) (fun w hSw => by have s4 := hSw.cell x1; go_simp; rfl) ?_; simp only [tkA, tkB, tkC]
                  refine .tk 18 35 rfl rfl (by kernel_rfl) (fun _ _ _ h => h) ⟨Tk1, fun _ => trivial⟩ (by rfl) (fun w hSw => by go_simp; rfl) ?_; simp only [tkA, tkB, tkC]
                  refine .tk 19 36 rfl rfl (by kernel_rfl) (fun _ _ _ h => h) ⟨Tk1, fun _ => trivial⟩ (by rfl) (fun w hSw => by go_simp; rfl) ?_; simp only [tkA, tkB, tkC]
                  refine .tk 20 37 rfl rfl (by kernel_rfl) (fun _ _ _ h => h) ⟨Tk1, fun _ => trivial⟩ (by rfl) (fun w hSw => by go_simp; rfl) ?_; simp only [tkA, tkB, tkC]
                  refine .tk 21 38 rfl rfl (by kernel_rfl) (fun _ _ _ h => h) ⟨Tk1, fun _ => trivial⟩ (by rfl) (fun w hSw => by go_simp; rfl) ?_; simp only [tkA, tkB, tkC]
                  refine .tk 22 39 rfl rfl (by kernel_rfl) (fun _ _ _ h => h) ⟨Tk1, fun _ => trivial⟩ (by rfl) (fun w hSw => by have s4 := hSw.cell y1; go_simp; rfl) ?_; simp only [tkA, tkB, tkC]
                  refine AnyG.ready (rs := [23]) (by kernel_rfl) (by simp) ?_
                  refine AllG.cons rfl (fun K1 hK => ?_) AllG.nil
                  go_simp
                  refine ((K.out _ Tk1).2.1).mono ?_
                  rintro e wk2 ⟨rfl, Tk2⟩
                  refine hK.out _ _ ⟨Tk2, fun _ => trivial⟩ ?_
                  clear hK K1 Tk1
                  rw [E1]
                  refine .tk 24 41 rfl rfl (by kernel_rfl) (fun _ _ _ h => h) ⟨Tk2, fun _ => trivial⟩ (by rfl) (fun w hSw => by go_simp; rfl) ?_; simp only [tkA, tkB, tkC]
                  refine .tk 25 42 rfl rfl (by kernel_rfl) (fun _ _ _ h => h) ⟨Tk2, fun _ => trivial⟩ (by rfl) (fun w hSw => by go_simp; rfl) ?_; simp only [tkA, tkB, tkC]
                  refine .tk 26 43 rfl rfl (by kernel_rfl) (fun _ _ _ h => h) ⟨Tk2, fun _ => trivial⟩ (by rfl) (fun w hSw => by go_simp; rfl) ?_; simp only [tkA, tkB, tkC]
                  refine .tk 27 44 rfl rfl (by kernel_rfl) (fun _ _ _ h => h) ⟨Tk2, fun _ => trivial⟩ (by rfl) (fun w hSw => by go_simp; rfl) ?_; simp only [tkA, tkB, tkC]
                  refine .tk 28 45 rfl rfl (by kernel_rfl) (fun _ _ _ h => h) ⟨Tk2, fun _ => trivial⟩ (by rfl) (fun w hSw => by go_simp; rfl) ?_; simp only [tkA, tkB, tkC]
                  refine .tk 29 46 rfl rfl (by kernel_rfl) (fun _ _ _ h => h) ⟨Tk2, fun _ => trivial⟩ (by rfl) (fun w hSw => by go_simp; rfl) ?_; simp only [tkA, tkB, tkC]
                  refine .tk 30 47 rfl rfl (by kernel_rfl) (fun _ _ _ h => h) ⟨Tk2, fun _ => trivial⟩ (by rfl) (fun w hSw => by go_simp; rfl) ?_; simp only [tkA, tkB, tkC]
                  refine .tk 31 48 rfl rfl (by kernel_rfl) (fun _ _ _ h => h) ⟨Tk2, fun _ => trivial⟩ (by rfl) (fun w hSw => by have s4 := hSw.cell x2; go_simp; rfl) ?_; simp only [tkA, tkB, tkC]
                  refine .tk 32 49 rfl rfl (by kernel_rfl) (fun _ _ _ h => h) ⟨Tk2, fun _ => trivial⟩ (by rfl) (fun w hSw => by go_simp; rfl) ?_; simp only [tkA, tkB, tkC]
                  refine .tk 33 50 rfl rfl (by kernel_rfl) (fun _ _ _ h => h) ⟨Tk2, fun _ => trivial⟩ (by rfl) (fun w hSw => by go_simp; rfl) ?_; simp only [tkA, tkB, tkC]
                  refine .tk 34 51 rfl rfl (by kernel_rfl) (fun _ _ _ h => h) ⟨Tk2, fun _ => trivial⟩ (by rfl) (fun w hSw => by go_simp; rfl) ?_; simp only [tkA, tkB, tkC]
                  refine .tk 35 52 rfl rfl (by kernel_rfl) (fun _ _ _ h => h) ⟨Tk2, fun _ => trivial⟩ (by rfl) (fun w hSw => by go_simp; rfl) ?_; simp only [tkA, tkB, tkC]
                  refine .tk 36 53 rfl rfl (by kernel_rfl) (fun _ _ _ h => h) ⟨Tk2, fun _ => trivial⟩ (by rfl) (fun w hSw => by have s4 := hSw.cell y2; go_simp; rfl) ?_; simp only [tkA, tkB, tkC]
                  refine AnyG.ready (rs := [37]) (by kernel_rfl) (by simp) ?_
                  refine AllG.cons rfl (fun K1 hK => ?_) AllG.nil
                  go_simp
                  refine ((K.out _ Tk2).2.2.1).mono ?_
                  rintro e wk3 ⟨rfl, Tk3⟩
                  refine hK.out _ _ ⟨Tk3, fun _ => trivial⟩ ?_
                  clear hK K1 Tk2
                  rw [E2]
                  refine .tk 38 55 rfl rfl (by kernel_rfl) (fun _ _ _ h => h) ⟨Tk3, fun _ => trivial⟩ (by rfl) (fun w hSw => by go_simp; rfl) ?_; simp only [tkA, tkB, tkC]
                  refine .tk 39 56 rfl rfl (by kernel_rfl) (fun _ _ _ h => h) ⟨Tk3, fun _ => trivial⟩ (by rfl) (fun w hSw => by go_simp; rfl) ?_; simp only [tkA, tkB, tkC]
                  refine .tk 40 57 rfl rfl (by kernel_rfl) (fun _ _ _ h => h) ⟨Tk3, fun _ => trivial⟩ (by rfl) (fun w hSw => by go_simp; rfl) ?_; simp only [tkA, tkB, tkC]
                  refine .tk 41 58 rfl rfl (by kernel_rfl) (fun _ _ _ h => h) ⟨Tk3, fun _ => trivial⟩ (by rfl) (fun w hSw => by go_simp; rfl) ?_; simp only [tkA, tkB, tkC]
                  refine .tk 42 59 rfl rfl (by kernel_rfl) (fun _ _ _ h => h) ⟨Tk3, fun _ => trivial⟩ (by rfl) (fun w hSw => by go_simp; rfl) ?_; simp only [tkA, tkB, tkC]
                  refine .tk 43 60 rfl rfl (by kernel_rfl) (fun _ _ _ h => h) ⟨Tk3, fun _ => trivial⟩ (by rfl) (fun w hSw => by go_simp; rfl) ?_; simp only [tkA, tkB, tkC]
                  refine .tk 44 61 rfl rfl (by kernel_rfl) (fun _ _ _ h => h) ⟨Tk3, fun _ => trivial⟩ (by rfl) (fun w hSw => by go_simp; rfl) ?_; simp only [tkA, tkB, tkC]
                  refine .tk 45 62 rfl rfl (by kernel_rfl) (fun _ _ _ h => h) ⟨Tk3, fun _ => trivial⟩ (by rfl) (fun w hSw => by have s4 := hSw.cell x3; go_simp; rfl) ?_; simp only [tkA, tkB, tkC]
                  refine .tk 46 63 rfl rfl (by kernel_rfl) (fun _ _ _ h => h) ⟨Tk3, fun _ => trivial⟩ (by rfl) (fun w hSw => by go_simp; rfl) ?_; simp only [tkA, tkB, tkC]
                  refine .tk 47 64 rfl rfl (by kernel_rfl) (fun _ _ _ h => h) ⟨Tk3, fun _ => trivial⟩ (by rfl) (fun w hSw => by go_simp; rfl) ?_; simp only [tkA, tkB, tkC]
                  refine .tk 48 65 rfl rfl (by kernel_rfl) (fun _ _ _ h => h) ⟨Tk3, fun _ => trivial⟩ (by rfl) (fun w hSw => by go_simp; rfl) ?_; simp only [tkA, tkB, tkC]
                  refine .tk 49 66 rfl rfl (by kernel_rfl) (fun _ _ _ h => h) ⟨Tk3, fun _ => trivial⟩ (by rfl) (fun w hSw => by go_simp; rfl) ?_; simp only [tkA, tkB, tkC]
                  refine .tk 50 67 rfl rfl (by kernel_rfl) (fun _ _ _ h => h) ⟨Tk3, fun _ => trivial⟩ (by rfl) (fun w hSw => by have s4 := hSw.cell y3; go_simp; rfl) ?_; simp only [tkA, tkB, tkC]
                  refine AnyG.ready (rs := [51]) (by kernel_rfl) (by simp) ?_
                  refine AllG.cons rfl (fun K1 hK => ?_) AllG.nil
                  go_simp
                  refine ((K.out _ Tk3).2.2.2.1).mono ?_
                  rintro e wk4 ⟨rfl, Tk4⟩
                  refine hK.out _ _ ⟨Tk4, fun _ => trivial⟩ ?_
                  clear hK K1 Tk3
                  rw [E3]
                  refine .tk 52 69 rfl rfl (by kernel_rfl) (fun _ _ _ h => h) ⟨Tk4, fun _ => trivial⟩ (by rfl) (fun w hSw => by go_simp; rfl) ?_; simp only [tkA, tkB, tkC]
                  refine .tk 53 70 rfl rfl (by kernel_rfl) (fun _ _ _ h => h) ⟨Tk4, fun _ => trivial⟩ (by rfl) (fun w hSw => by go_simp; rfl) ?_; simp only [tkA, tkB, tkC]
                  refine .tk 54 71 rfl rfl (by kernel_rfl) (fun _ _ _ h => h) ⟨Tk4, fun _ => trivial⟩ (by rfl) (fun w hSw => by go_simp; rfl) ?_; simp only [tkA, tkB, tkC]
                  refine .tk 55 72 rfl rfl (by kernel_rfl) (fun _ _ _ h => h) ⟨Tk4, fun _ => trivial⟩ (by rfl) (fun w hSw => by go_simp; rfl) ?_; simp only [tkA, tkB, tkC]
                  refine .tk 56 73 rfl rfl (by kernel_rfl) (fun _ _ _ h => h) ⟨Tk4, fun _ => trivial⟩ (by rfl) (fun w hSw => by go_simp; rfl) ?_; simp only [tkA, tkB, tkC]
                  refine .tk 57 74 rfl rfl (by kernel_rfl) (fun _ _ _ h => h) ⟨Tk4, fun _ => trivial⟩ (by rfl) (fun w hSw => by go_simp; rfl) ?_; simp only [tkA, tkB, tkC]
                  refine .tk 58 75 rfl rfl (by kernel_rfl) (fun _ _ _ h => h) ⟨Tk4, fun _ => trivial⟩ (by rfl) (fun w hSw => by go_simp; rfl) ?_; simp only [tkA, tkB, tkC]
                  refine .tk 59 76 rfl rfl (by kernel_rfl) (fun _ _ _ h => h) ⟨Tk4, fun _ => trivial⟩ (by rfl) (fun w hSw => by have s4 := hSw.cell x4; go_simp; rfl) ?_; simp only [tkA, tkB, tkC]
                  refine .tk 60 77 rfl rfl (by kernel_rfl) (fun _ _ _ h => h) ⟨Tk4, fun _ => trivial⟩ (by rfl) (fun w hSw => by go_simp; rfl) ?_; simp only [tkA, tkB, tkC]
                  refine .tk 61 78 rfl rfl (by kernel_rfl) (fun _ _ _ h => h) ⟨Tk4, fun _ => trivial⟩ (by rfl) (fun w hSw => by go_simp; rfl) ?_; simp only [tkA, tkB, tkC]
                  refine .tk 62 79 rfl rfl (by kernel_rfl) (fun _ _ _ h => h) ⟨Tk4, fun _ => trivial⟩ (by rfl) (fun w hSw => by go_simp; rfl) ?_; simp only [tkA, tkB, tkC]
                  refine .tk 63 80 rfl rfl (by kernel_rfl) (fun _ _ _ h => h) ⟨Tk4, fun _ => trivial⟩ (by rfl) (fun w hSw => by go_simp; rfl) ?_; simp only [tkA, tkB, tkC]
                  refine .tk 64 81 rfl rfl (by kernel_rfl) (fun _ _ _ h => h) ⟨Tk4, fun _ => trivial⟩ (by rfl) (fun w hSw => by have s4 := hSw.cell y4; go_simp; rfl) ?_; simp only [tkA, tkB, tkC]
                  refine AnyG.ready (rs := [65]) (by kernel_rfl) (by simp) ?_
                  refine AllG.cons rfl (fun K1 hK => ?_) AllG.nil
                  go_simp
                  refine ((K.out _ Tk4).2.2.2.2).mono ?_
                  rintro e wk5 ⟨rfl, Tk5⟩
                  refine hK.out _ _ ⟨Tk5, fun _ => trivial⟩ ?_
                  clear hK K1 Tk4
                  rw [E4]
                  refine .tk 66 83 rfl rfl (by kernel_rfl) (fun _ _ _ h => h) ⟨Tk5, fun _ => trivial⟩ (by rfl) (fun w hSw => by go_simp; rfl) ?_; simp only [tkA, tkB, tkC]
                  refine .tk 67 84 rfl rfl (by kernel_rfl) (fun _ _ _ h => h) ⟨Tk5, fun _ => trivial⟩ (by rfl) (fun w hSw => by go_simp; rfl) ?_; simp only [tkA, tkB, tkC]
                  refine AnyG.done (by kernel_rfl) ?_ _
                  have TF : Hd (Drw w wk5) := ⟨Tk5⟩
                  clear x0 x1 x2 x3 x4 y0 y1 y2 y3 y4 K
                  go_wp2_with fail
                  go_roundw
                  case rel =>
                    first
                      | exact ⟨k + 1, HK.out, by go_num, ⟨TF.out, HQ.out⟩⟩
                      | ((repeat apply Exists.intro); exact ⟨⟨k + 1, HK.out, by go_num, ⟨TF.out, HQ.out⟩⟩, rfl⟩)
                  case measure => have := HK.out; simp [intOf]; omega
                · have E4 : decide (ra.spaces = sa.spaces) = false := decide_eq_false e4
                  have HF : Hd (bb = false) := ⟨HNo.out (.inr (.inr (.inr (.inr e4))))⟩
                  clear HNo HEq
                  clear e0 e1 e2 e3 e4
                  go_upto_region 6 with fail
                  have T0 : Drw w wr.drew := by obtain ⟨q, hq⟩ := DW; exact ⟨q + 1, by rw [hq]; rfl⟩
                  refine AnyG.start (T := Drw w) (U := fun _ => True) (j0 := 100) (by kernel_rfl) ?_
                  clear DW
                  generalize wr.drew = w0 at *
                  refine .tk 0 17 rfl rfl (by kernel_rfl) (fun _ _ _ h => h) ⟨T0, fun _ => trivial⟩ (by rfl) (fun w hSw => by go_simp; rfl) ?_; simp only [tkA, tkB, tkC]
                  refine .tk 1 18 rfl rfl (by kernel_rfl) (fun _ _ _ h => h) ⟨T0, fun _ => trivial⟩ (by rfl) (fun w hSw => by go_simp; rfl) ?_; simp only [tkA, tkB, tkC]
                  refine .tk 2 19 rfl rfl (by kernel_rfl) (fun _ _ _ h => h) ⟨T0, fun _ => trivial⟩ (by rfl) (fun w hSw => by go_simp; rfl) ?_; simp only [tkA, tkB, tkC]
                  refine .tk 3 20 rfl rfl (by kernel_rfl) (fun _ _ _ h => h) ⟨T0, fun _ => trivial⟩ (by rfl) (fun w hSw => by go_simp; rfl) ?_; simp only [tkA, tkB, tkC]
                  refine .tk 4 21 rfl rfl (by kernel_rfl) (fun _ _ _ h => h) ⟨T0, fun _ => trivial⟩ (by rfl) (fun w hSw => by have s4 := hSw.cell x0; go_simp; rfl) ?_; simp only [tkA, tkB, tkC]
                  refine .tk 5 22 rfl rfl (by kernel_rfl) (fun _ _ _ h => h) ⟨T0, fun _ => trivial⟩ (by rfl) (fun w hSw => by go_simp; rfl) ?_; simp only [tkA, tkB, tkC]
                  refine .tk 6 23 rfl rfl (by kernel_rfl) (fun _ _ _ h => h) ⟨T0, fun _ => trivial⟩ (by rfl) (fun w hSw => by go_simp; rfl) ?_; simp only [tkA, tkB, tkC]
                  refine .tk 7 24 rfl rfl (by kernel_rfl) (fun _ _ _ h => h) ⟨T0, fun _ => trivial⟩ (by rfl) (fun w hSw => by go_simp; rfl) ?_; simp only [tkA, tkB, tkC]
                  refine .tk 8 25 rfl rfl (by kernel_rfl) (fun _ _ _ h => h) ⟨T0, fun _ => trivial⟩ (by rfl) (fun w hSw => by go_simp; rfl) ?_; simp only [tkA, tkB, tkC]
                  refine .tk 9 26 rfl rfl (by kernel_rfl) (fun _ _ _ h => h) ⟨T0, fun _ => trivial⟩ (by rfl) (fun w hSw => by have s4 := hSw.cell y0; go_simp; rfl) ?_; simp only [tkA, tkB, tkC]
                  refine AnyG.ready (rs := [10]) (by kernel_rfl) (by simp) ?_
                  refine AllG.cons rfl (fun K1 hK => ?_) AllG.nil
                  go_simp
                  refine ((K.out _ T0).1).mono ?_
                  rintro e wk1 ⟨rfl, Tk1⟩
                  refine hK.out _ _ ⟨Tk1, fun _ => trivial⟩ ?_
                  clear hK K1 T0
                  rw [E0]
                  refine .tk 11 28 rfl rfl (by kernel_rfl) (fun _ _ _ h => h) ⟨Tk1, fun _ => trivial⟩ (by rfl) (fun w hSw => by go_simp; rfl) ?_; simp only [tkA, tkB, tkC]
                  refine .tk 12 29 rfl rfl (by kernel_rfl) (fun _ _ _ h => h) ⟨Tk1, fun _ => trivial⟩ (by rfl) (fun w hSw => by go_simp; rfl) ?_; simp only [tkA, tkB, tkC]
                  refine .tk 13 30 rfl rfl (by kernel_rfl) (fun _ _ _ h => h) ⟨Tk1, fun _ => trivial⟩ (by rfl) (fun w hSw => by go_simp; rfl) ?_; simp only [tkA, tkB, tkC]
                  refine .tk 14 31 rfl rfl (by kernel_rfl) (fun _ _ _ h => h) ⟨Tk1, fun _ => trivial⟩ (by rfl) (fun w hSw => by go_simp; rfl) ?_; simp only [tkA, tkB, tkC]
                  refine .tk 15 32 rfl rfl (by kernel_rfl) (fun _ _ _ h => h) ⟨Tk1, fun _ => trivial⟩ (by rfl) (fun w hSw => by go_simp; rfl) ?_; simp only [tkA, tkB, tkC]
                  refine .tk 16 33 rfl rfl (by kernel_rfl) (fun _ _ _ h => h) ⟨Tk1, fun _ => trivial⟩ (by rfl) (fun w hSw => by go_simp; rfl) ?_; simp only [tkA, tkB, tkC]
                  refine .tk 17 34 rfl rfl (by kernel_rfl) (fun _ _ _ h => h) ⟨Tk1, fun _ => trivial⟩ (by rfl) (fun w hSw => by have s4 := hSw.cell x1; go_simp; rfl) ?_; simp only [tkA, tkB, tkC]
                  refine .tk 18 35 rfl rfl (by kernel_rfl) (fun _ _ _ h => h) ⟨Tk1, fun _ => trivial⟩ (by rfl) (fun w hSw => by go_simp; rfl) ?_; simp only [tkA, tkB, tkC]
                  refine .tk 19 36 rfl rfl (by kernel_rfl) (fun _ _ _ h => h) ⟨Tk1, fun _ => trivial⟩ (by rfl) (fun w hSw => by go_simp; rfl) ?_; simp only [tkA, tkB, tkC]
                  refine .tk 20 37 rfl rfl (by kernel_rfl) (fun _ _ _ h => h) ⟨Tk1, fun _ => trivial⟩ (by rfl) (fun w hSw => by go_simp; rfl) ?_; simp only [tkA, tkB, tkC]
                  refine .tk 21 38 rfl rfl (by kernel_rfl) (fun _ _ _ h => h) ⟨Tk1, fun _ => trivial⟩ (by rfl) (fun w hSw => by go_simp; rfl) ?_; simp only [tkA, tkB, tkC]
                  refine .tk 22 39 rfl rfl (by kernel_rfl) (fun _ _ _ h => h) ⟨Tk1, fun _ => trivial⟩ (by rfl) (fun w hSw => by have s4 := hSw.cell y1; go_simp; rfl) ?_; simp only [tkA, tkB, tkC]
                  refine AnyG.ready (rs := [23]) (by kernel_rfl) (by simp) ?_
                  refine AllG.cons rfl (fun K1 hK => ?_) AllG.nil
                  go_simp
                  refine ((K.out _ Tk1).2.1).mono ?_
                  rintro e wk2 ⟨rfl, Tk2⟩
                  refine hK.out _ _ ⟨Tk2, fun _ => trivial⟩ ?_
                  clear hK K1 Tk1
                  rw [E1]
                  refine .tk 24 41 rfl rfl (by kernel_rfl) (fun _ _ _ h => h) ⟨Tk2, fun _ => trivial⟩ (by rfl) (fun w hSw => by go_simp; rfl) ?_; simp only [tkA, tkB, tkC]
                  refine .tk 25 42 rfl rfl (by kernel_rfl) (fun _ _ _ h => h) ⟨Tk2, fun _ => trivial⟩ (by rfl) (fun w hSw => by go_simp; rfl) ?_; simp only [tkA, tkB, tkC]
                  refine .tk 26 43 rfl rfl (by kernel_rfl) (fun _ _ _ h => h) ⟨Tk2, fun _ => trivial⟩ (by rfl) (fun w hSw => by go_simp; rfl) ?_; simp only [tkA, tkB, tkC]
                  refine .tk 27 44 rfl rfl (by kernel_rfl) (fun _ _ _ h => h) ⟨Tk2, fun _ => trivial⟩ (by rfl) (fun w hSw => by go_simp; rfl) ?_; simp only [tkA, tkB, tkC]
                  refine .tk 28 45 rfl rfl (by kernel_rfl) (fun _ _ _ h => h) ⟨Tk2, fun _ => trivial⟩ (by rfl) (fun w hSw => by go_simp; rfl) ?_; simp only [tkA, tkB, tkC]
                  refine .tk 29 46 rfl rfl (by kernel_rfl) (fun _ _ _ h => h) ⟨Tk2, fun _ => trivial⟩ (by rfl) (fun w hSw => by go_simp; rfl) ?_; simp only [tkA, tkB, tkC]
                  refine .tk 30 47 rfl rfl (by kernel_rfl) (fun _ _ _ h => h) ⟨Tk2, fun _ => trivial⟩ (by rfl) (fun w hSw => by go_simp; rfl) ?_; simp only [tkA, tkB, tkC]
                  refine .tk 31 48 rfl rfl (by kernel_rfl) (fun _ _ _ h => h) ⟨Tk2, fun _ => trivial⟩ (by rfl) (fun w hSw => by have s4 := hSw.cell x2; go_simp; rfl) ?_; simp only [tkA, tkB, tkC]
                  refine .tk 32 49 rfl rfl (by kernel_rfl) (fun _ _ _ h => h) ⟨Tk2, fun _ => trivial⟩ (by rfl) (fun w hSw => by go_simp; rfl) ?_; simp only [tkA, tkB, tkC]
                  refine .tk 33 50 rfl rfl (by kernel_rfl) (fun _ _ _ h => h) ⟨Tk2, fun _ => trivial⟩ (by rfl) (fun w hSw => by go_simp; rfl) ?_; simp only [tkA, tkB, tkC]
                  refine .tk 34 51 rfl rfl (by kernel_rfl) (fun _ _ _ h => h) ⟨Tk2, fun _ => trivial⟩ (by rfl) (fun w hSw => by go_simp; rfl) ?_; simp only [tkA, tkB, tkC]
                  refine .tk 35 52 rfl rfl (by kernel_rfl) (fun _ _ _ h => h) ⟨Tk2, fun _ => trivial⟩ (by rfl) (fun w hSw => by go_simp; rfl) ?_; simp only [tkA, tkB, tkC]
                  refine .tk 36 53 rfl rfl (by kernel_rfl) (fun _ _ _ h => h) ⟨Tk2, fun _ => trivial⟩ (by rfl) (fun w hSw => by have s4 := hSw.cell y2; go_simp; rfl) ?_; simp only [tkA, tkB, tkC]
                  refine AnyG.ready (rs := [37]) (by kernel_rfl) (by simp) ?_
                  refine AllG.cons rfl (fun K1 hK => ?_) AllG.nil
                  go_simp
                  refine ((K.out _ Tk2).2.2.1).mono ?_
                  rintro e wk3 ⟨rfl, Tk3⟩
                  refine hK.out _ _ ⟨Tk3, fun _ => trivial⟩ ?_
                  clear hK K1 Tk2
                  rw [E2]
                  refine .tk 38 55 rfl rfl (by kernel_rfl) (fun _ _ _ h => h) ⟨Tk3, fun _ => trivial⟩ (by rfl) (fun w hSw => by go_simp; rfl) ?_; simp only [tkA, tkB, tkC]
                  refine .tk 39 56 rfl rfl (by kernel_rfl) (fun _ _ _ h => h) ⟨Tk3, fun _ => trivial⟩ (by rfl) (fun w hSw => by go_simp; rfl) ?_; simp only [tkA, tkB, tkC]
                  refine .tk 40 57 rfl rfl (by kernel_rfl) (fun _ _ _ h => h) ⟨Tk3, fun _ => trivial⟩ (by rfl) (fun w hSw => by go_simp; rfl) ?_; simp only [tkA, tkB, tkC]
                  refine .tk 41 58 rfl rfl (by kernel_rfl) (fun _ _ _ h => h) ⟨Tk3, fun _ => trivial⟩ (by rfl) (fun w hSw => by go_simp; rfl) ?_; simp only [tkA, tkB, tkC]
                  refine .tk 42 59 rfl rfl (by kernel_rfl) (fun _ _ _ h => h) ⟨Tk3, fun _ => trivial⟩ (by rfl) (fun w hSw => by go_simp; rfl) ?_; simp only [tkA, tkB, tkC]
                  refine .tk 43 60 rfl rfl (by kernel_rfl) (fun _ _ _ h => h) ⟨Tk3, fun _ => trivial⟩ (by rfl) (fun w hSw => by go_simp; rfl) ?_; simp only [tkA, tkB, tkC]
                  refine .tk 44 61 rfl rfl (by kernel_rfl) (fun _ _ _ h => h) ⟨Tk3, fun _ => trivial⟩ (by rfl) (fun w hSw => by go_simp; rfl) ?_; simp only [tkA, tkB, tkC]
                  refine .tk 45 62 rfl rfl (by kernel_rfl) (fun _ _ _ h => h) ⟨Tk3, fun _ => trivial⟩ (by rfl) (fun w hSw => by have s4 := hSw.cell x3; go_simp; rfl) ?_; simp only [tkA, tkB, tkC]
                  refine .tk 46 63 rfl rfl (by kernel_rfl) (fun _ _ _ h => h) ⟨Tk3, fun _ => trivial⟩ (by rfl) (fun w hSw => by go_simp; rfl) ?_; simp only [tkA, tkB, tkC]
                  refine .tk 47 64 rfl rfl (by kernel_rfl) (fun _ _ _ h => h) ⟨Tk3, fun _ => trivial⟩ (by rfl) (fun w hSw => by go_simp; rfl) ?_; simp only [tkA, tkB, tkC]
                  refine .tk 48 65 rfl rfl (by kernel_rfl) (fun _ _ _ h => h) ⟨Tk3, fun _ => trivial⟩ (by rfl) (fun w hSw => by go_simp; rfl) ?_; simp only [tkA, tkB, tkC]
                  refine .tk 49 66 rfl rfl (by kernel_rfl) (fun _ _ _ h => h) ⟨Tk3, fun _ => trivial⟩ (by rfl) (fun w hSw => by go_simp; rfl) ?_; simp only [tkA, tkB, tkC]
                  refine .tk 50 67 rfl rfl (by kernel_rfl) (fun _ _ _ h => h) ⟨Tk3, fun _ => trivial⟩ (by rfl) (fun w hSw => by have s4 := hSw.cell y3; go_simp; rfl) ?_; simp only [tkA, tkB, tkC]
                  refine AnyG.ready (rs := [51]) (by kernel_rfl) (by simp) ?_
                  refine AllG.cons rfl (fun K1 hK => ?_) AllG.nil
                  go_simp
                  refine ((K.out _ Tk3).2.2.2.1).mono ?_
                  rintro e wk4 ⟨rfl, Tk4⟩
                  refine hK.out _ _ ⟨Tk4, fun _ => trivial⟩ ?_
                  clear hK K1 Tk3
                  rw [E3]
                  refine .tk 52 69 rfl rfl (by kernel_rfl) (fun _ _ _ h => h) ⟨Tk4, fun _ => trivial⟩ (by rfl) (fun w hSw => by go_simp; rfl) ?_; simp only [tkA, tkB, tkC]
                  refine .tk 53 70 rfl rfl (by kernel_rfl) (fun _ _ _ h => h) ⟨Tk4, fun _ => trivial⟩ (by rfl) (fun w hSw => by go_simp; rfl) ?_; simp only [tkA, tkB, tkC]
                  refine .tk 54 71 rfl rfl (by kernel_rfl) (fun _ _ _ h => h) ⟨Tk4, fun _ => trivial⟩ (by rfl) (fun w hSw => by go_simp; rfl) ?_; simp only [tkA, tkB, tkC]
                  refine .tk 55 72 rfl rfl (by kernel_rfl) (fun _ _ _ h => h) ⟨Tk4, fun _ => trivial⟩ (by rfl) (fun w hSw => by go_simp; rfl) ?_; simp only [tkA, tkB, tkC]
                  refine .tk 56 73 rfl rfl (by kernel_rfl) (fun _ _ _ h => h) ⟨Tk4, fun _ => trivial⟩ (by rfl) (fun w hSw => by go_simp; rfl) ?_; simp only [tkA, tkB, tkC]
                  refine .tk 57 74 rfl rfl (by kernel_rfl) (fun _ _ _ h => h) ⟨Tk4, fun _ => trivial⟩ (by rfl) (fun w hSw => by go_simp; rfl) ?_; simp only [tkA, tkB, tkC]
                  refine .tk 58 75 rfl rfl (by kernel_rfl) (fun _ _ _ h => h) ⟨Tk4, fun _ => trivial⟩ (by rfl) (fun w hSw => by go_simp; rfl) ?_; simp only [tkA, tkB, tkC]
                  refine .tk 59 76 rfl rfl (by kernel_rfl) (fun _ _ _ h => h) ⟨Tk4, fun _ => trivial⟩ (by rfl) (fun w hSw => by have s4 := hSw.cell x4; go_simp; rfl) ?_; simp only [tkA, tkB, tkC]
                  refine .tk 60 77 rfl rfl (by kernel_rfl) (fun _ _ _ h => h) ⟨Tk4, fun _ => trivial⟩ (by rfl) (fun w hSw => by go_simp; rfl) ?_; simp only [tkA, tkB, tkC]
                  refine .tk 61 78 rfl rfl (by kernel_rfl) (fun _ _ _ h => h) ⟨Tk4, fun _ => trivial⟩ (by rfl) (fun w hSw => by go_simp; rfl) ?_; simp only [tkA, tkB, tkC]
                  refine .tk 62 79 rfl rfl (by kernel_rfl) (fun _ _ _ h => h) ⟨Tk4, fun _ => trivial⟩ (by rfl) (fun w hSw => by go_simp; rfl) ?_; simp only [tkA, tkB, tkC]
                  refine .tk 63 80 rfl rfl (by kernel_rfl) (fun _ _ _ h => h) ⟨Tk4, fun _ => trivial⟩ (by rfl) (fun w hSw => by go_simp; rfl) ?_; simp only [tkA, tkB, tkC]
                  refine .tk 64 81 rfl rfl (by kernel_rfl) (fun _ _ _ h => h) ⟨Tk4, fun _ => trivial⟩ (by rfl) (fun w hSw => by have s4 := hSw.cell y4; go_simp; rfl) ?_; simp only [tkA, tkB, tkC]
                  refine AnyG.ready (rs := [65]) (by kernel_rfl) (by simp) ?_
                  refine AllG.cons rfl (fun K1 hK => ?_) AllG.nil
                  go_simp
                  refine ((K.out _ Tk4).2.2.2.2).mono ?_
                  rintro e wk5 ⟨rfl, Tk5⟩
                  refine hK.out _ _ ⟨Tk5, fun _ => trivial⟩ ?_
                  clear hK K1 Tk4
                  rw [E4]
                  refine .tk 66 83 rfl rfl (by kernel_rfl) (fun _ _ _ h => h) ⟨Tk5, fun _ => trivial⟩ (by rfl) (fun w hSw => by go_simp; rfl) ?_; simp only [tkA, tkB, tkC]
                  refine .tk 67 84 rfl rfl (by kernel_rfl) (fun _ _ _ h => h) ⟨Tk5, fun _ => trivial⟩ (by rfl) (fun w hSw => by go_simp; rfl) ?_; simp only [tkA, tkB, tkC]
                  refine AnyG.done (by kernel_rfl) ?_ _
                  have TF : Hd (Drw w wk5) := ⟨Tk5⟩
                  clear x0 x1 x2 x3 x4 y0 y1 y2 y3 y4 K
                  go_wp2_with fail
                  go_ret
                  exact ⟨by rw [HF.out]; rfl, TF.out⟩
              · have E3 : decide (ra.resources = sa.resources) = false := decide_eq_false e3
                have HF : Hd (bb = false) := ⟨HNo.out (.inr (.inr (.inr (.inl e3))))⟩
                clear HNo HEq
                clear e0 e1 e2 e3
                go_upto_region 6 with fail
                have T0 : Drw w wr.drew := by obtain ⟨q, hq⟩ := DW; exact ⟨q + 1, by rw [hq]; rfl⟩
                refine AnyG.start (T := Drw w) (U := fun _ => True) (j0 := 100) (by kernel_rfl) ?_
                clear DW
                generalize wr.drew = w0 at *
                refine .tk 0 17 rfl rfl (by kernel_rfl) (fun _ _ _ h => h) ⟨T0, fun _ => trivial⟩ (by rfl) (fun w hSw => by go_simp; rfl) ?_; simp only [tkA, tkB, tkC]
                refine .tk 1 18 rfl rfl (by kernel_rfl) (fun _ _ _ h => h) ⟨T0, fun _ => trivial⟩ (by rfl) (fun w hSw => by go_simp; rfl) ?_; simp only [tkA, tkB, tkC]
                refine .tk 2 19 rfl rfl (by kernel_rfl) (fun _ _ _ h => h) ⟨T0, fun _ => trivial⟩ (by rfl) (fun w hSw => by go_simp; rfl) ?_; simp only [tkA, tkB, tkC]
                refine .tk 3 20 rfl rfl (by kernel_rfl) (fun _ _ _ h => h) ⟨T0, fun _ => trivial⟩ (by rfl) (fun w hSw => by go_simp; rfl) ?_; simp only [tkA, tkB, tkC]
                refine .tk 4 21 rfl rfl (by kernel_rfl) (fun _ _ _ h => h) ⟨T0, fun _ => trivial⟩ (by rfl) (fun w hSw => by have s4 := hSw.cell x0; go_simp; rfl) ?_; simp only [tkA, tkB, tkC]
                refine .tk 5 22 rfl rfl (by kernel_rfl) (fun _ _ _ h => h) ⟨T0, fun _ => trivial⟩ (by rfl) (fun w hSw => by go_simp; rfl) ?_; simp only [tkA, tkB, tkC]
                refine .tk 6 23 rfl rfl (by kernel_rfl) (fun _ _ _ h => h) ⟨T0, fun _ => trivial⟩ (by rfl) (fun w hSw => by go_simp; rfl) ?_; simp only [tkA, tkB, tkC]
                refine .tk 7 24 rfl rfl (by kernel_rfl) (fun _ _ _ h => h) ⟨T0, fun _ => trivial⟩ (by rfl) (fun w hSw => by go_simp; rfl) ?_; simp only [tkA, tkB, tkC]
                refine .tk 8 25 rfl rfl (by kernel_rfl) (fun _ _ _ h => h) ⟨T0, fun _ => trivial⟩ (by rfl) (fun w hSw => by go_simp; rfl) ?_; simp only [tkA, tkB, tkC]
                refine .tk 9 26 rfl rfl (by kernel_rfl) (fun _ _ _ h => h) ⟨T0, fun _ => trivial⟩ (by rfl) (fun w hSw => by have s4 := hSw.cell y0; go_simp; rfl) ?_; simp only [tkA, tkB, tkC]
                refine AnyG.ready (rs := [10]) (by kernel_rfl) (by simp) ?_
                refine AllG.cons rfl (fun K1 hK => ?_) AllG.nil
                go_simp
                refine ((K.out _ T0).1).mono ?_
                rintro e wk1 ⟨rfl, Tk1⟩
                refine hK.out _ _ ⟨Tk1, fun _ => trivial⟩ ?_
                clear hK K1 T0
                rw [E0]
                refine .tk 11 28 rfl rfl (by kernel_rfl) (fun _ _ _ h => h) ⟨Tk1, fun _ => trivial⟩ (by rfl) (fun w hSw => by go_simp; rfl) ?_; simp only [tkA, tkB, tkC]
                refine .tk 12 29 rfl rfl (by kernel_rfl) (fun _ _ _ h => h) ⟨Tk1, fun _ => trivial⟩ (by rfl) (fun w hSw => by go_simp; rfl) ?_; simp only [tkA, tkB, tkC]
                refine .tk 13 30 rfl rfl (by kernel_rfl) (fun _ _ _ h => h) ⟨Tk1, fun _ => trivial⟩ (by rfl) (fun w hSw => by go_simp; rfl) ?_; simp only [tkA, tkB, tkC]
                refine .tk 14 31 rfl rfl (by kernel_rfl) (fun _ _ _ h => h) ⟨Tk1, fun _ => trivial⟩ (by rfl) (fun w hSw => by go_simp; rfl) ?_; simp only [tkA, tkB, tkC]
                refine .tk 15 32 rfl rfl (by kernel_rfl) (fun _ _ _ h => h) ⟨Tk1, fun _ => trivial⟩ (by rfl) (fun w hSw => by go_simp; rfl) ?_; simp only [tkA, tkB, tkC]
                refine .tk 16 33 rfl rfl (by kernel_rfl) (fun _ _ _ h => h) ⟨Tk1, fun _ => trivial⟩ (by rfl) (fun w hSw => by go_simp; rfl) ?_; simp only [tkA, tkB, tkC]
                refine .tk 17 34 rfl rfl (by kernel_rfl) (fun _ _ _ h => h) ⟨Tk1, fun _ => trivial⟩ (by rfl) (fun w hSw => by have s4 := hSw.cell x1; go_simp; rfl) ?_; simp only [tkA, tkB, tkC]
                refine .tk 18 35 rfl rfl (by kernel_rfl) (fun _ _ _ h => h) ⟨Tk1, fun _ => trivial⟩ (by rfl) (fun w hSw => by go_simp; rfl) ?_; simp only [tkA, tkB, tkC]
                refine .tk 19 36 rfl rfl (by kernel_rfl) (fun _ _ _ h => h) ⟨Tk1, fun _ => trivial⟩ (by rfl) (fun w hSw => by go_simp; rfl) ?_; simp only [tkA, tkB, tkC]
                refine .tk 20 37 rfl rfl (by kernel_rfl) (fun _ _ _ h => h) ⟨Tk1, fun _ => trivial⟩ (by rfl) (fun w hSw => by go_simp; rfl) ?_; simp only [tkA, tkB, tkC]
                refine .tk 21 38 rfl rfl (by kernel_rfl) (fun _ _ _ h => h) ⟨Tk1, fun _ => trivial⟩ (by rfl) (fun w hSw => by go_simp; rfl) ?_; simp only [tkA, tkB, tkC]
                refine .tk 22 39 rfl rfl (by kernel_rfl) (fun _ _ _ h => h) ⟨Tk1, fun _ => trivial⟩ (by rfl) (fun w hSw => by have s4 := hSw.cell y1; go_simp; rfl) ?_; simp only [tkA, tkB, tkC]
                refine AnyG.ready (rs := [23]) (by kernel_rfl) (by simp) ?_
                refine AllG.cons rfl (fun K1 hK => ?_) AllG.nil
                go_simp
                refine ((K.out _ Tk1).2.1).mono ?_
                rintro e wk2 ⟨rfl, Tk2⟩
                refine hK.out _ _ ⟨Tk2, fun _ => trivial⟩ ?_
                clear hK K1 Tk1
                rw [E1]
                refine .tk 24 41 rfl rfl (by kernel_rfl) (fun _ _ _ h => h) ⟨Tk2, fun _ => trivial⟩ (by rfl) (fun w hSw => by go_simp; rfl) ?_; simp only [tkA, tkB, tkC]
                refine .tk 25 42 rfl rfl (by kernel_rfl) (fun _ _ _ h => h) ⟨Tk2, fun _ => trivial⟩ (by rfl) (fun w hSw => by go_simp; rfl) ?_; simp only [tkA, tkB, tkC]
                refine .tk 26 43 rfl rfl (by kernel_rfl) (fun _ _ _ h => h) ⟨Tk2, fun _ => trivial⟩ (by rfl) (fun w hSw => by go_simp; rfl) ?_; simp only [tkA, tkB, tkC]
                refine .tk 27 44 rfl rfl (by kernel_rfl) (fun _ _ _ h => h) ⟨Tk2, fun _ => trivial⟩ (by rfl) (fun w hSw => by go_simp; rfl) ?_; simp only [tkA, tkB, tkC]
                refine .tk 28 45 rfl rfl (by kernel_rfl) (fun _ _ _ h => h) ⟨Tk2, fun _ => trivial⟩ (by rfl) (fun w hSw => by go_simp; rfl) ?_; simp only [tkA, tkB, tkC]
                refine .tk 29 46 rfl rfl (by kernel_rfl) (fun _ _ _ h => h) ⟨Tk2, fun _ => trivial⟩ (by rfl) (fun w hSw => by go_simp; rfl) ?_; simp only [tkA, tkB, tkC]
                refine .tk 30 47 rfl rfl (by kernel_rfl) (fun _ _ _ h => h) ⟨Tk2, fun _ => trivial⟩ (by rfl) (fun w hSw => by go_simp; rfl) ?_; simp only [tkA, tkB, tkC]
                refine .tk 31 48 rfl rfl (by kernel_rfl) (fun _ _ _ h => h) ⟨Tk2, fun _ => trivial⟩ (by rfl) (fun w hSw => by have s4 := hSw.cell x2; go_simp; rfl) ?_; simp only [tkA, tkB, tkC]
                refine .tk 32 49 rfl rfl (by kernel_rfl) (fun _ _ _ h => h) ⟨Tk2, fun _ => trivial⟩ (by rfl) (fun w hSw => by go_simp; rfl) ?_; simp only [tkA, tkB, tkC]
                refine .tk 33 50 rfl rfl (by kernel_rfl) (fun _ _ _ h => h) ⟨Tk2, fun _ => trivial⟩ (by rfl) (fun w hSw => by go_simp; rfl) ?_; simp only [tkA, tkB, tkC]
                refine .tk 34 51 rfl rfl (by kernel_rfl) (fun _ _ _ h => h) ⟨Tk2, fun _ => trivial⟩ (by rfl) (fun w hSw => by go_simp; rfl) ?_; simp only [tkA, tkB, tkC]
                refine .tk 35 52 rfl rfl (by kernel_rfl) (fun _ _ _ h => h) ⟨Tk2, fun _ => trivial⟩ (by rfl) (fun w hSw => by go_simp; rfl) ?_; simp only [tkA, tkB, tkC]
                refine .tk 36 53 rfl rfl (by kernel_rfl) (fun _ _ _ h => h) ⟨Tk2, fun _ => trivial⟩ (by rfl) (fun w hSw => by have s4 := hSw.cell y2; go_simp; rfl) ?_; simp only [tkA, tkB, tkC]
                refine AnyG.ready (rs := [37]) (by kernel_rfl) (by simp) ?_
                refine AllG.cons rfl (fun K1 hK => ?_) AllG.nil
                go_simp
                refine ((K.out _ Tk2).2.2.1).mono ?_
                rintro e wk3 ⟨rfl, Tk3⟩
                refine hK.out _ _ ⟨Tk3, fun _ => trivial⟩ ?_
                clear hK K1 Tk2
                rw [E2]
                refine .tk 38 55 rfl rfl (by kernel_rfl) (fun _ _ _ h => h) ⟨Tk3, fun _ => trivial⟩ (by rfl) (fun w hSw => by go_simp; rfl) ?_; simp only [tkA, tkB, tkC]
                refine .tk 39 56 rfl rfl (by kernel_rfl) (fun _ _ _ h => h) ⟨Tk3, fun _ => trivial⟩ (by rfl) (fun w hSw => by go_simp; rfl) ?_; simp only [tkA, tkB, tkC]
                refine .tk 40 57 rfl rfl (by kernel_rfl) (fun _ _ _ h => h) ⟨Tk3, fun _ => trivial⟩ (by rfl) (fun w hSw => by go_simp; rfl) ?_; simp only [tkA, tkB, tkC]
                refine .tk 41 58 rfl rfl (by kernel_rfl) (fun _ _ _ h => h) ⟨Tk3, fun _ => trivial⟩ (by rfl) (fun w hSw => by go_simp; rfl) ?_; simp only [tkA, tkB, tkC]
                refine .tk 42 59 rfl rfl (by kernel_rfl) (fun _ _ _ h => h) ⟨Tk3, fun _ => trivial⟩ (by rfl) (fun w hSw => by go_simp; rfl) ?_; simp only [tkA, tkB, tkC]
                refine .tk 43 60 rfl rfl (by kernel_rfl) (fun _ _ _ h => h) ⟨Tk3, fun _ => trivial⟩ (by rfl) (fun w hSw => by go_simp; rfl) ?_; simp only [tkA, tkB, tkC]
                refine .tk 44 61 rfl rfl (by kernel_rfl) (fun _ _ _ h => h) ⟨Tk3, fun _ => trivial⟩ (by rfl) (fun w hSw => by go_simp; rfl) ?_; simp only [tkA, tkB, tkC]
                refine .tk 45 62 rfl rfl (by kernel_rfl) (fun _ _ _ h => h) ⟨Tk3, fun _ => trivial⟩ (by rfl) (fun w hSw => by have s4 := hSw.cell x3; go_simp; rfl) ?_; simp only [tkA, tkB, tkC]
                refine .tk 46 63 rfl rfl (by kernel_rfl) (fun _ _ _ h => h) ⟨Tk3, fun _ => trivial⟩ (by rfl) (fun w hSw => by go_simp; rfl) ?_; simp only [tkA, tkB, tkC]
                refine .tk 47 64 rfl rfl (by kernel_rfl) (fun _ _ _ h => h) ⟨Tk3, fun _ => trivial⟩ (by rfl) (fun w hSw => by go_simp; rfl) ?_; simp only [tkA, tkB, tkC]
                refine .tk 48 65 rfl rfl (by kernel_rfl) (fun _ _ _ h => h) ⟨Tk3, fun _ => trivial⟩ (by rfl) (fun w hSw => by go_simp; rfl) ?_; simp only [tkA, tkB, tkC]
                refine .tk 49 66 rfl rfl (by kernel_rfl) (fun _ _ _ h => h) ⟨Tk3, fun _ => trivial⟩ (by rfl) (fun w hSw => by go_simp; rfl) ?_; simp only [tkA, tkB, tkC]
                refine .tk 50 67 rfl rfl (by kernel_rfl) (fun _ _ _ h => h) ⟨Tk3, fun _ => trivial⟩ (by rfl) (fun w hSw => by have s4 := hSw.cell y3; go_simp; rfl) ?_; simp only [tkA, tkB, tkC]
                refine AnyG.ready (rs := [51]) (by kernel_rfl) (by simp) ?_
                refine AllG.cons rfl (fun K1 hK => ?_) AllG.nil
                go_simp
                refine ((K.out _ Tk3).2.2.2.1).mono ?_
                rintro e wk4 ⟨rfl, Tk4⟩
                refine hK.out _ _ ⟨Tk4, fun _ => trivial⟩ ?_
                clear hK K1 Tk3
                rw [E3]
                refine .tk 52 69 rfl rfl (by kernel_rfl) (fun _ _ _ h => h) ⟨Tk4, fun _ => trivial⟩ (by rfl) (fun w hSw => by go_simp; rfl) ?_; simp only [tkA, tkB, tkC]
                refine .tk 53 70 rfl rfl (by kernel_rfl) (fun _ _ _ h => h) ⟨Tk4, fun _ => trivial⟩ (by rfl) (fun w hSw => by go_simp; rfl) ?_; simp only [tkA, tkB, tkC]
                refine .tk 54 71 rfl rfl (by kernel_rfl) (fun _ _ _ h => h) ⟨Tk4, fun _ => trivial⟩ (by rfl) (fun w hSw => by go_simp; rfl) ?_; simp only [tkA, tkB, tkC]
                refine .sk 55 72 rfl rfl (by kernel_rfl) (fun _ _ _ h => h) ⟨Tk4, fun _ => trivial⟩ (by rfl) ?_; simp only [tkA, tkB, tkC]
                refine .sk 56 73 rfl rfl (by kernel_rfl) (fun _ _ _ h => h) ⟨Tk4, fun _ => trivial⟩ (by rfl) ?_; simp only [tkA, tkB, tkC]
                refine .sk 57 74 rfl rfl (by kernel_rfl) (fun _ _ _ h => h) ⟨Tk4, fun _ => trivial⟩ (by rfl) ?_; simp only [tkA, tkB, tkC]
                refine .sk 58 75 rfl rfl (by kernel_rfl) (fun _ _ _ h => h) ⟨Tk4, fun _ => trivial⟩ (by rfl) ?_; simp only [tkA, tkB, tkC]
                refine .sk 59 76 rfl rfl (by kernel_rfl) (fun _ _ _ h => h) ⟨Tk4, fun _ => trivial⟩ (by rfl) ?_; simp only [tkA, tkB, tkC]
                refine .sk 60 77 rfl rfl (by kernel_rfl) (fun _ _ _ h => h) ⟨Tk4, fun _ => trivial⟩ (by rfl) ?_; simp only [tkA, tkB, tkC]
                refine .sk 61 78 rfl rfl (by kernel_rfl) (fun _ _ _ h => h) ⟨Tk4, fun _ => trivial⟩ (by rfl) ?_; simp only [tkA, tkB, tkC]
                refine .sk 62 79 rfl rfl (by kernel_rfl) (fun _ _ _ h => h) ⟨Tk4, fun _ => trivial⟩ (by rfl) ?_; simp only [tkA, tkB, tkC]
                refine .sk 63 80 rfl rfl (by kernel_rfl) (fun _ _ _ h => h) ⟨Tk4, fun _ => trivial⟩ (by rfl) ?_; simp only [tkA, tkB, tkC]
                refine .sk 64 81 rfl rfl (by kernel_rfl) (fun _ _ _ h => h) ⟨Tk4, fun _ => trivial⟩ (by rfl) ?_; simp only [tkA, tkB, tkC]
                refine .sk 65 82 rfl rfl (by kernel_rfl) (fun _ _ _ h => h) ⟨Tk4, fun _ => trivial⟩ (by rfl) ?_; simp only [tkA, tkB, tkC]
                refine .sk 66 83 rfl rfl (by kernel_rfl) (fun _ _ _ h => h) ⟨Tk4, fun _ => trivial⟩ (by rfl) ?_; simp only [tkA, tkB, tkC]
                refine .tk 67 84 rfl rfl (by kernel_rfl) (fun _ _ _ h => h) ⟨Tk4, fun _ => trivial⟩ (by rfl) (fun w hSw => by go_simp; rfl) ?_; simp only [tkA, tkB, tkC]
                refine AnyG.done (by kernel_rfl) ?_ _
                have TF : Hd (Drw w wk4) := ⟨Tk4⟩
                clear x0 x1 x2 x3 x4 y0 y1 y2 y3 y4 K
                go_wp2_with fail
                go_ret
                exact ⟨by rw [HF.out]; rfl, TF.out⟩
            · have E2 : decide (ra.verbs = sa.verbs) = false := decide_eq_false e2
              have HF : Hd (bb = false) := ⟨HNo.out (.inr (.inr (.inl e2)))⟩
              clear HNo HEq
              clear e0 e1 e2
              go_upto_region 6 with fail
              have T0 : Drw w wr.drew := by obtain ⟨q, hq⟩ := DW; exact ⟨q + 1, by rw [hq]; rfl⟩
              refine AnyG.start (T := Drw w) (U := fun _ => True) (j0 := 100) (by kernel_rfl) ?_
              clear DW
              generalize wr.drew = w0 at *
              refine .tk 0 17 rfl rfl (by kernel_rfl) (fun _ _ _ h => h) ⟨T0, fun _ => trivial⟩ (by rfl) (fun w hSw => by go_simp; rfl) ?_; simp only [tkA, tkB, tkC]
              refine .tk 1 18 rfl rfl (by kernel_rfl) (fun _ _ _ h => h) ⟨T0, fun _ => trivial⟩ (by rfl) (fun w hSw => by go_simp; rfl) ?_; simp only [tkA, tkB, tkC]
              refine .tk 2 19 rfl rfl (by kernel_rfl) (fun _ _ _ h => h) ⟨T0, fun _ => trivial⟩ (by rfl) (fun w hSw => by go_simp; rfl) ?_; simp only [tkA, tkB, tkC]
              refine .tk 3 20 rfl rfl (by kernel_rfl) (fun _ _ _ h => h) ⟨T0, fun _ => trivial⟩ (by rfl) (fun w hSw => by go_simp; rfl) ?_; simp only [tkA, tkB, tkC]
              refine .tk 4 21 rfl rfl (by kernel_rfl) (fun _ _ _ h => h) ⟨T0, fun _ => trivial⟩ (by rfl) (fun w hSw => by have s4 := hSw.cell x0; go_simp; rfl) ?_; simp only [tkA, tkB, tkC]
              refine .tk 5 22 rfl rfl (by kernel_rfl) (fun _ _ _ h => h) ⟨T0, fun _ => trivial⟩ (by rfl) (fun w hSw => by go_simp; rfl) ?_; simp only [tkA, tkB, tkC]
              refine .tk 6 23 rfl rfl (by kernel_rfl) (fun _ _ _ h => h) ⟨T0, fun _ => trivial⟩ (by rfl) (fun w hSw => by go_simp; rfl) ?_; simp only [tkA, tkB, tkC]
              refine .tk 7 24 rfl rfl (by kernel_rfl) (fun _ _ _ h => h) ⟨T0, fun _ => trivial⟩ (by rfl) (fun w hSw => by go_simp; rfl) ?_; simp only [tkA, tkB, tkC]
              refine .tk 8 25 rfl rfl (by kernel_rfl) (fun _ _ _ h => h) ⟨T0, fun _ => trivial⟩ (by rfl) (fun w hSw => by go_simp; rfl) ?_; simp only [tkA, tkB, tkC]
              refine .tk 9 26 rfl rfl (by kernel_rfl) (fun _ _ _ h => h) ⟨T0, fun _ => trivial⟩ (by rfl) (fun w hSw => by have s4 := hSw.cell y0; go_simp; rfl) ?_; simp only [tkA, tkB, tkC]
              refine AnyG.ready (rs := [10]) (by kernel_rfl) (by simp) ?_
              refine AllG.cons rfl (fun K1 hK => ?_) AllG.nil
              go_simp
              refine ((K.out _ T0).1).mono ?_
              rintro e wk1 ⟨rfl, Tk1⟩
              refine hK.out _ _ ⟨Tk1, fun _ => trivial⟩ ?_
              clear hK K1 T0
              rw [E0]
              refine .tk 11 28 rfl rfl (by kernel_rfl) (fun _ _ _ h => h) ⟨Tk1, fun _ => trivial⟩ (by rfl) (fun w hSw => by go_simp; rfl) ?_; simp only [tkA, tkB, tkC]
              refine .tk 12 29 rfl rfl (by kernel_rfl) (fun _ _ _ h => h) ⟨Tk1, fun _ => trivial⟩ (by rfl) (fun w hSw => by go_simp; rfl) ?_; simp only [tkA, tkB, tkC]
              refine .tk 13 30 rfl rfl (by kernel_rfl) (fun _ _ _ h => h) ⟨Tk1, fun _ => trivial⟩ (by rfl) (fun w hSw => by go_simp; rfl) ?_; simp only [tkA, tkB, tkC]
              refine .tk 14 31 rfl rfl (by kernel_rfl) (fun _ _ _ h => h) ⟨Tk1, fun _ => trivial⟩ (by rfl) (fun w hSw => by go_simp; rfl) ?_; simp only [tkA, tkB, tkC]
              refine .tk 15 32 rfl rfl (by kernel_rfl) (fun _ _ _ h => h) ⟨Tk1, fun _ => trivial⟩ (by rfl) (fun w hSw => by go_simp; rfl) ?_; simp only [tkA, tkB, tkC]
              refine .tk 16 33 rfl rfl (by kernel_rfl) (fun _ _ _ h => h) ⟨Tk1, fun _ => trivial⟩ (by rfl) (fun w hSw => by go_simp; rfl) ?_; simp only [tkA, tkB, tkC]
              refine .tk 17 34 rfl rfl (by kernel_rfl) (fun _ _ _ h => h) ⟨Tk1, fun _ => trivial⟩ (by rfl) (fun w hSw => by have s4 := hSw.cell x1; go_simp; rfl) ?_; simp only [tkA, tkB, tkC]
              refine .tk 18 35 rfl rfl (by kernel_rfl) (fun _ _ _ h => h) ⟨Tk1, fun _ => trivial⟩ (by rfl) (fun w hSw => by go_simp; rfl) ?_; simp only [tkA, tkB, tkC]
              refine .tk 19 36 rfl rfl (by kernel_rfl) (fun _ _ _ h => h) ⟨Tk1, fun _ => trivial⟩ (by rfl) (fun w hSw => by go_simp; rfl) ?_; simp only [tkA, tkB, tkC]
              refine .tk 20 37 rfl rfl (by kernel_rfl) (fun _ _ _ h => h) ⟨Tk1, fun _ => trivial⟩ (by rfl) (fun w hSw => by go_simp; rfl) ?_; simp only [tkA, tkB, tkC]
              refine .tk 21 38 rfl rfl (by kernel_rfl) (fun _ _ _ h => h) ⟨Tk1, fun _ => trivial⟩ (by rfl) (fun w hSw => by go_simp; rfl) ?_; simp only [tkA, tkB, tkC]
              refine .tk 22 39 rfl rfl (by kernel_rfl) (fun _ _ _ h => h) ⟨Tk1, fun _ => trivial⟩ (by rfl) (fun w hSw => by have s4 := hSw.cell y1; go_simp; rfl) ?_; simp only [tkA, tkB, tkC]
              refine AnyG.ready (rs := [23]) (by kernel_rfl) (by simp) ?_
              refine AllG.cons rfl (fun K1 hK => ?_) AllG.nil
              go_simp
              refine ((K.out _ Tk1).2.1).mono ?_
              rintro e wk2 ⟨rfl, Tk2⟩
              refine hK.out _ _ ⟨Tk2, fun _ => trivial⟩ ?_
              clear hK K1 Tk1
              rw [E1]
              refine .tk 24 41 rfl rfl (by kernel_rfl) (fun _ _ _ h => h) ⟨Tk2, fun _ => trivial⟩ (by rfl) (fun w hSw => by go_simp; rfl) ?_; simp only [tkA, tkB, tkC]
              refine .tk 25 42 rfl rfl (by kernel_rfl) (fun _ _ _ h => h) ⟨Tk2, fun _ => trivial⟩ (by rfl) (fun w hSw => by go_simp; rfl) ?_; simp only [tkA, tkB, tkC]
              refine .tk 26 43 rfl rfl (by kernel_rfl) (fun _ _ _ h => h) ⟨Tk2, fun _ => trivial⟩ (by rfl) (fun w hSw => by go_simp; rfl) ?_; simp only [tkA, tkB, tkC]
              refine .tk 27 44 rfl rfl (by kernel_rfl) (fun _ _ _ h => h) ⟨Tk2, fun _ => trivial⟩ (by rfl) (fun w hSw => by go_simp; rfl) ?_; simp only [tkA, tkB, tkC]
              refine .tk 28 45 rfl rfl (by kernel_rfl) (fun _ _ _ h => h) ⟨Tk2, fun _ => trivial⟩ (by rfl) (fun w hSw => by go_simp; rfl) ?_; simp only [tkA, tkB, tkC]
              refine .tk 29 46 rfl rfl (by kernel_rfl) (fun _ _ _ h => h) ⟨Tk2, fun _ => trivial⟩ (by rfl) (fun w hSw => by go_simp; rfl) ?_; simp only [tkA, tkB, tkC]
              refine .tk 30 47 rfl rfl (by kernel_rfl) (fun _ _ _ h => h) ⟨Tk2, fun _ => trivial⟩ (by rfl) (fun w hSw => by go_simp; rfl) ?_; simp only [tkA, tkB, tkC]
              refine .tk 31 48 rfl rfl (by kernel_rfl) (fun _ _ _ h => h) ⟨Tk2, fun _ => trivial⟩ (by rfl) (fun w hSw => by have s4 := hSw.cell x2; go_simp; rfl) ?_; simp only [tkA, tkB, tkC]
              refine .tk 32 49 rfl rfl (by kernel_rfl) (fun _ _ _ h => h) ⟨Tk2, fun _ => trivial⟩ (by rfl) (fun w hSw => by go_simp; rfl) ?_; simp only [tkA, tkB, tkC]
              refine .tk 33 50 rfl rfl (by kernel_rfl) (fun _ _ _ h => h) ⟨Tk2, fun _ => trivial⟩ (by rfl) (fun w hSw => by go_simp; rfl) ?_; simp only [tkA, tkB, tkC]
              refine .tk 34 51 rfl rfl (by kernel_rfl) (fun _ _ _ h => h) ⟨Tk2, fun _ => trivial⟩ (by rfl) (fun w hSw => by go_simp; rfl) ?_; simp only [tkA, tkB, tkC]
              refine .tk 35 52 rfl rfl (by kernel_rfl) (fun _ _ _ h => h) ⟨Tk2, fun _ => trivial⟩ (by rfl) (fun w hSw => by go_simp; rfl) ?_; simp only [tkA, tkB, tkC]
              refine .tk 36 53 rfl rfl (by kernel_rfl) (fun _ _ _ h => h) ⟨Tk2, fun _ => trivial⟩ (by rfl) (fun w hSw => by have s4 := hSw.cell y2; go_simp; rfl) ?_; simp only [tkA, tkB, tkC]
              refine AnyG.ready (rs := [37]) (by kernel_rfl) (by simp) ?_
              refine AllG.cons rfl (fun K1 hK => ?_) AllG.nil
              go_simp
              refine ((K.out _ Tk2).2.2.1).mono ?_
              rintro e wk3 ⟨rfl, Tk3⟩
              refine hK.out _ _ ⟨Tk3, fun _ => trivial⟩ ?_
              clear hK K1 Tk2
              rw [E2]
              refine .tk 38 55 rfl rfl (by kernel_rfl) (fun _ _ _ h => h) ⟨Tk3, fun _ => trivial⟩ (by rfl) (fun w hSw => by go_simp; rfl) ?_; simp only [tkA, tkB, tkC]
              refine .tk 39 56 rfl rfl (by kernel_rfl) (fun _ _ _ h => h) ⟨Tk3, fun _ => trivial⟩ (by rfl) (fun w hSw => by go_simp; rfl) ?_; simp only [tkA, tkB, tkC]
              refine .tk 40 57 rfl rfl (by kernel_rfl) (fun _ _ _ h => h) ⟨Tk3, fun _ => trivial⟩ (by rfl) (fun w hSw => by go_simp; rfl) ?_; simp only [tkA, tkB, tkC]
              refine .sk 41 58 rfl rfl (by kernel_rfl) (fun _ _ _ h => h) ⟨Tk3, fun _ => trivial⟩ (by rfl) ?_; simp only [tkA, tkB, tkC]
              refine .sk 42 59 rfl rfl (by kernel_rfl) (fun _ _ _ h => h) ⟨Tk3, fun _ => trivial⟩ (by rfl) ?_; simp only [tkA, tkB, tkC]
              refine .sk 43 60 rfl rfl (by kernel_rfl) (fun _ _ _ h => h) ⟨Tk3, fun _ => trivial⟩ (by rfl) ?_; simp only [tkA, tkB, tkC]
              refine .sk 44 61 rfl rfl (by kernel_rfl) (fun _ _ _ h => h) ⟨Tk3, fun _ => trivial⟩ (by rfl) ?_; simp only [tkA, tkB, tkC]
              refine .sk 45 62 rfl rfl (by kernel_rfl) (fun _ _ _ h => h) ⟨Tk3, fun _ => trivial⟩ (by rfl) ?_; simp only [tkA, tkB, tkC]
              refine .sk 46 63 rfl rfl (by kernel_rfl) (fun _ _ _ h => h) ⟨Tk3, fun _ => trivial⟩ (by rfl) ?_; simp only [tkA, tkB, tkC]
              refine .sk 47 64 rfl rfl (by kernel_rfl) (fun _ _ _ h => h) ⟨Tk3, fun _ => trivial⟩ (by rfl) ?_; simp only [tkA, tkB, tkC]
              refine .sk 48 65 rfl rfl (by kernel_rfl) (fun _ _ _ h => h) ⟨Tk3, fun _ => trivial⟩ (by rfl) ?_; simp only [tkA, tkB, tkC]
              refine .sk 49 66 rfl rfl (by kernel_rfl) (fun _ _ _ h => h) ⟨Tk3, fun _ => trivial⟩ (by rfl) ?_; simp only [tkA, tkB, tkC]
              refine .sk 50 67 rfl rfl (by kernel_rfl) (fun _ _ _ h => h) ⟨Tk3, fun _ => trivial⟩ (by rfl) ?_; simp only [tkA, tkB, tkC]
              refine .sk 51 68 rfl rfl (by kernel_rfl) (fun _ _ _ h => h) ⟨Tk3, fun _ => trivial⟩ (by rfl) ?_; simp only [tkA, tkB, tkC]
              refine .sk 52 69 rfl rfl (by kernel_rfl) (fun _ _ _ h => h) ⟨Tk3, fun _ => trivial⟩ (by rfl) ?_; simp only [tkA, tkB, tkC]
              refine .tk 53 70 rfl rfl (by kernel_rfl) (fun _ _ _ h => h) ⟨Tk3, fun _ => trivial⟩ (by rfl) (fun w hSw => by go_simp; rfl) ?_; simp only [tkA, tkB, tkC]
              refine .tk 54 71 rfl rfl (by kernel_rfl) (fun _ _ _ h => h) ⟨Tk3, fun _ => trivial⟩ (by rfl) (fun w hSw => by go_simp; rfl) ?_; simp only [tkA, tkB, tkC]
              refine .sk 55 72 rfl rfl (by kernel_rfl) (fun _ _ _ h => h) ⟨Tk3, fun _ => trivial⟩ (by rfl) ?_; simp only [tkA, tkB, tkC]
              refine .sk 56 73 rfl rfl (by kernel_rfl) (fun _ _ _ h => h) ⟨Tk3, fun _ => trivial⟩ (by rfl) ?_; simp only [tkA, tkB, tkC]
              refine .sk 57 74 rfl rfl (by kernel_rfl) (fun _ _ _ h => h) ⟨Tk3, fun _ => trivial⟩ (by rfl) ?_; simp only [tkA, tkB, tkC]
              refine .sk 58 75 rfl rfl (by kernel_rfl) (fun _ _ _ h => h) ⟨Tk3, fun _ => trivial⟩ (by rfl) ?_; simp only [tkA, tkB, tkC]
              refine .sk 59 76 rfl rfl (by kernel_rfl) (fun _ _ _ h => h) ⟨Tk3, fun _ => trivial⟩ (by rfl) ?_; simp only [tkA, tkB, tkC]
              refine .sk 60 77 rfl rfl (by kernel_rfl) (fun _ _ _ h => h) ⟨Tk3, fun _ => trivial⟩ (by rfl) ?_; simp only [tkA, tkB, tkC]
              refine .sk 61 78 rfl rfl (by kernel_rfl) (fun _ _ _ h => h) ⟨Tk3, fun _ => trivial⟩ (by rfl) ?_; simp only [tkA, tkB, tkC]
              refine .sk 62 79 rfl rfl (by kernel_rfl) (fun _ _ _ h => h) ⟨Tk3, fun _ => trivial⟩ (by rfl) ?_; simp only [tkA, tkB, tkC]
              refine .sk 63 80 rfl rfl (by kernel_rfl) (fun _ _ _ h => h) ⟨Tk3, fun _ => trivial⟩ (by rfl) ?_; simp only [tkA, tkB, tkC]
              refine .sk 64 81 rfl rfl (by kernel_rfl) (fun _ _ _ h => h) ⟨Tk3, fun _ => trivial⟩ (by rfl) ?_; simp only [tkA, tkB, tkC]
              refine .sk 65 82 rfl rfl (by kernel_rfl) (fun _ _ _ h => h) ⟨Tk3, fun _ => trivial⟩ (by rfl) ?_; simp only [tkA, tkB, tkC]
              refine .sk 66 83 rfl rfl (by kernel_rfl) (fun _ _ _ h => h) ⟨Tk3, fun _ => trivial⟩ (by rfl) ?_; simp only [tkA, tkB, tkC]
              refine .tk 67 84 rfl rfl (by kernel_rfl) (fun _ _ _ h => h) ⟨Tk3, fun _ => trivial⟩ (by rfl) (fun w hSw => by go_simp; rfl) ?_; simp only [tkA, tkB, tkC]
              refine AnyG.done (by kernel_rfl) ?_ _
              have TF : Hd (Drw w wk3) := ⟨Tk3⟩
              clear x0 x1 x2 x3 x4 y0 y1 y2 y3 y4 K
              go_wp2_with fail
              go_ret
              exact ⟨by rw [HF.out]; rfl, TF.out⟩
          · have E1 : decide (ra.groups = sa.groups) = false := decide_eq_false e1
            have HF : Hd (bb = false) := ⟨HNo.out (.inr (.inl e1))⟩
            clear HNo HEq
            clear e0 e1
            go_upto_region 6 with fail
            have T0 : Drw w wr.drew := by obtain ⟨q, hq⟩ := DW; exact ⟨q + 1, by rw [hq]; rfl⟩
            refine AnyG.start (T := Drw w) (U := fun _ => True) (j0 := 100) (by kernel_rfl) ?_
            clear DW
            generalize wr.drew = w0 at *
            refine .tk 0 17 rfl rfl (by kernel_rfl) (fun _ _ _ h => h) ⟨T0, fun _ => trivial⟩ (by rfl) (fun w hSw => by go_simp; rfl) ?_; simp only [tkA, tkB, tkC]
            refine .tk 1 18 rfl rfl (by kernel_rfl) (fun _ _ _ h => h) ⟨T0, fun _ => trivial⟩ (by rfl) (fun w hSw => by go_simp; rfl) ?_; simp only [tkA, tkB, tkC]
            refine .tk 2 19 rfl rfl (by kernel_rfl) (fun _ _ _ h => h) ⟨T0, fun _ => trivial⟩ (by rfl) (fun w hSw => by go_simp; rfl) ?_; simp only [tkA, tkB, tkC]
            refine .tk 3 20 rfl rfl (by kernel_rfl) (fun _ _ _ h => h) ⟨T0, fun _ => trivial⟩ (by rfl) (fun w hSw => by go_simp; rfl) ?_; simp only [tkA, tkB, tkC]
            refine .tk 4 21 rfl rfl (by kernel_rfl) (fun _ _ _ h => h) ⟨T0, fun _ => trivial⟩ (by rfl) (fun w hSw => by have s4 := hSw.cell x0; go_simp; rfl) ?_; simp only [tkA, tkB, tkC]
            refine .tk 5 22 rfl rfl (by kernel_rfl) (fun _ _ _ h => h) ⟨T0, fun _ => trivial⟩ (by rfl) (fun w hSw => by go_simp; rfl) ?_; simp only [tkA, tkB, tkC]
            refine .tk 6 23 rfl rfl (by kernel_rfl) (fun _ _ _ h => h) ⟨T0, fun _ => trivial⟩ (by rfl) (fun w hSw => by go_simp; rfl) ?_; simp only [tkA, tkB, tkC]
            refine .tk 7 24 rfl rfl (by kernel_rfl) (fun _ _ _ h => h) ⟨T0, fun _ => trivial⟩ (by rfl) (fun w hSw => by go_simp; rfl) ?_; simp only [tkA, tkB, tkC]
            refine .tk 8 25 rfl rfl (by kernel_rfl) (fun _ _ _ h => h) ⟨T0, fun _ => trivial⟩ (by rfl) (fun w hSw => by go_simp; rfl) ?_; simp only [tkA, tkB, tkC]
            refine .tk 9 26 rfl rfl (by kernel_rfl) (fun _ _ _ h => h) ⟨T0, fun _ => trivial⟩ (by rfl) (fun w hSw => by have s4 := hSw.cell y0; go_simp; rfl) ?_; simp only [tkA, tkB, tkC]
            refine AnyG.ready (rs := [10]) (by kernel_rfl) (by simp) ?_
            refine AllG.cons rfl (fun K1 hK => ?_) AllG.nil
            go_simp
            refine ((K.out _ T0).1).mono ?_
            rintro e wk1 ⟨rfl, Tk1⟩
            refine hK.out _ _ ⟨Tk1, fun _ => trivial⟩ ?_
            clear hK K1 T0
            rw [E0]
            refine .tk 11 28 rfl rfl (by kernel_rfl) (fun _ _ _ h => h) ⟨Tk1, fun _ => trivial⟩ (by rfl) (fun w hSw => by go_simp; rfl) ?_; simp only [tkA, tkB, tkC]
            refine .tk 12 29 rfl rfl (by kernel_rfl) (fun _ _ _ h => h) ⟨Tk1, fun _ => trivial⟩ (by rfl) (fun w hSw => by go_simp; rfl) ?_; simp only [tkA, tkB, tkC]
            refine .tk 13 30 rfl rfl (by kernel_rfl) (fun _ _ _ h => h) ⟨Tk1, fun _ => trivial⟩ (by rfl) (fun w hSw => by go_simp; rfl) ?_; simp only [tkA, tkB, tkC]
            refine .tk 14 31 rfl rfl (by kernel_rfl) (fun _ _ _ h => h) ⟨Tk1, fun _ => trivial⟩ (by rfl) (fun w hSw => by go_simp; rfl) ?_; simp only [tkA, tkB, tkC]
            refine .tk 15 32 rfl rfl (by kernel_rfl) (fun _ _ _ h => h) ⟨Tk1, fun _ => trivial⟩ (by rfl) (fun w hSw => by go_simp; rfl) ?_; simp only [tkA, tkB, tkC]
            refine .tk 16 33 rfl rfl (by kernel_rfl) (fun _ _ _ h => h) ⟨Tk1, fun _ => trivial⟩ (by rfl) (fun w hSw => by go_simp; rfl) ?_; simp only [tkA, tkB, tkC]
            refine .tk 17 34 rfl rfl (by kernel_rfl) (fun _ _ _ h => h) ⟨Tk1, fun _ => trivial⟩ (by rfl) (fun w hSw => by have s4 := hSw.cell x1; go_simp; rfl) ?_; simp only [tkA, tkB, tkC]
            refine .tk 18 35 rfl rfl (by kernel_rfl) (fun _ _ _ h => h) ⟨Tk1, fun _ => trivial⟩ (by rfl) (fun w hSw => by go_simp; rfl) ?_; simp only [tkA, tkB, tkC]
            refine .tk 19 36 rfl rfl (by kernel_rfl) (fun _ _ _ h => h) ⟨Tk1, fun _ => trivial⟩ (by rfl) (fun w hSw => by go_simp; rfl) ?_; simp only [tkA, tkB, tkC]
            refine .tk 20 37 rfl rfl (by kernel_rfl) (fun _ _ _ h => h) ⟨Tk1, fun _ => trivial⟩ (by rfl) (fun w hSw => by go_simp; rfl) ?_; simp only [tkA, tkB, tkC]
            refine .tk 21 38 rfl rfl (by kernel_rfl) (fun _ _ _ h => h) ⟨Tk1, fun _ => trivial⟩ (by rfl) (fun w hSw => by go_simp; rfl) ?_; simp only [tkA, tkB, tkC]
            refine .tk 22 39 rfl rfl (by kernel_rfl) (fun _ _ _ h => h) ⟨Tk1, fun _ => trivial⟩ (by rfl) (fun w hSw => by have s4 := hSw.cell y1; go_simp; rfl) ?_; simp only [tkA, tkB, tkC]
            refine AnyG.ready (rs := [23]) (by kernel_rfl) (by simp) ?_
            refine AllG.cons rfl (fun K1 hK => ?_) AllG.nil
            go_simp
            refine ((K.out _ Tk1).2.1).mono ?_
            rintro e wk2 ⟨rfl, Tk2⟩
            refine hK.out _ _ ⟨Tk2, fun _ => trivial⟩ ?_
            clear hK K1 Tk1
            rw [E1]
            refine .tk 24 41 rfl rfl (by kernel_rfl) (fun _ _ _ h => h) ⟨Tk2, fun _ => trivial⟩ (by rfl) (fun w hSw => by go_simp; rfl) ?_; simp only [tkA, tkB, tkC]
            refine .tk 25 42 rfl rfl (by kernel_rfl) (fun _ _ _ h => h) ⟨Tk2, fun _ => trivial⟩ (by rfl) (fun w hSw => by go_simp; rfl) ?_; simp only [tkA, tkB, tkC]
            refine .tk 26 43 rfl rfl (by kernel_rfl) (fun _ _ _ h => h) ⟨Tk2, fun _ => trivial⟩ (by rfl) (fun w hSw => by go_simp; rfl) ?_; simp only [tkA, tkB, tkC]
            refine .sk 27 44 rfl rfl (by kernel_rfl) (fun _ _ _ h => h) ⟨Tk2, fun _ => trivial⟩ (by rfl) ?_; simp only [tkA, tkB, tkC]
            refine .sk 28 45 rfl rfl (by kernel_rfl) (fun _ _ _ h => h) ⟨Tk2, fun _ => trivial⟩ (by rfl) ?_; simp only [tkA, tkB, tkC]
            refine .sk 29 46 rfl rfl (by kernel_rfl) (fun _ _ _ h => h) ⟨Tk2, fun _ => trivial⟩ (by rfl) ?_; simp only [tkA, tkB, tkC]
            refine .sk 30 47 rfl rfl (by kernel_rfl) (fun _ _ _ h => h) ⟨Tk2, fun _ => trivial⟩ (by rfl) ?_; simp only [tkA, tkB, tkC]
            refine .sk 31 48 rfl rfl (by kernel_rfl) (fun _ _ _ h => h) ⟨Tk2, fun _ => trivial⟩ (by rfl) ?_; simp only [tkA, tkB, tkC]
            refine .sk 32 49 rfl rfl (by kernel_rfl) (fun _ _ _ h => h) ⟨Tk2, fun _ => trivial⟩ (by rfl) ?_; simp only [tkA, tkB, tkC]
            refine .sk 33 50 rfl rfl (by kernel_rfl) (fun _ _ _ h => h) ⟨Tk2, fun _ => trivial⟩ (by rfl) ?_; simp only [tkA, tkB, tkC]
            refine .sk 34 51 rfl rfl (by kernel_rfl) (fun _ _ _ h => h) ⟨Tk2, fun _ => trivial⟩ (by rfl) ?_; simp only [tkA, tkB, tkC]
            refine .sk 35 52 rfl rfl (by kernel_rfl) (fun _ _ _ h => h) ⟨Tk2, fun _ => trivial⟩ (by rfl) ?_; simp only [tkA, tkB, tkC]
            refine .sk 36 53 rfl rfl (by kernel_rfl) (fun _ _ _ h => h) ⟨Tk2, fun _ => trivial⟩ (by rfl) ?_; simp only [tkA, tkB, tkC]
            refine .sk 37 54 rfl rfl (by kernel_rfl) (fun _ _ _ h => h) ⟨Tk2, fun _ => trivial⟩ (by rfl) ?_; simp only [tkA, tkB, tkC]
            refine .sk 38 55 rfl rfl (by kernel_rfl) (fun _ _ _ h => h) ⟨Tk2, fun _ => trivial⟩ (by rfl) ?_; simp only [tkA, tkB, tkC]
            refine .tk 39 56 rfl rfl (by kernel_rfl) (fun _ _ _ h => h) ⟨Tk2, fun _ => trivial⟩ (by rfl) (fun w hSw => by go_simp; rfl) ?_; simp only [tkA, tkB, tkC]
            refine .tk 40 57 rfl rfl (by kernel_rfl) (fun _ _ _ h => h) ⟨Tk2, fun _ => trivial⟩ (by rfl) (fun w hSw => by go_simp; rfl) ?_; simp only [tkA, tkB, tkC]
            refine .sk 41 58 rfl rfl (by kernel_rfl) (fun _ _ _ h => h) ⟨Tk2, fun _ => trivial⟩ (by rfl) ?_; simp only [tkA, tkB, tkC]
            refine .sk 42 59 rfl rfl (by kernel_rfl) (fun _ _ _ h => h) ⟨Tk2, fun _ => trivial⟩ (by rfl) ?_; simp only [tkA, tkB, tkC]
            refine .sk 43 60 rfl rfl (by kernel_rfl) (fun _ _ _ h => h) ⟨Tk2, fun _ => trivial⟩ (by rfl) ?_; simp only [tkA, tkB, tkC]
            refine .sk 44 61 rfl rfl (by kernel_rfl) (fun _ _ _ h => h) ⟨Tk2, fun _ => trivial⟩ (by rfl) ?_; simp only [tkA, tkB, tkC]
            refine .sk 45 62 rfl rfl (by kernel_rfl) (fun _ _ _ h => h) ⟨Tk2, fun _ => trivial⟩ (by rfl) ?_; simp only [tkA, tkB, tkC]
            refine .sk 46 63 rfl rfl (by kernel_rfl) (fun _ _ _ h => h) ⟨Tk2, fun _ => trivial⟩ (by rfl) ?_; simp only [tkA, tkB, tkC]
            refine .sk 47 64 rfl rfl (by kernel_rfl) (fun _ _ _ h => h) ⟨Tk2, fun _ => trivial⟩ (by rfl) ?_; simp only [tkA, tkB, tkC]
            refine .sk 48 65 rfl rfl (by kernel_rfl) (fun _ _ _ h => h) ⟨Tk2, fun _ => trivial⟩ (by rfl) ?_; simp only [tkA, tkB, tkC]
            refine .sk 49 66 rfl rfl (by kernel_rfl) (fun _ _ _ h => h) ⟨Tk2, fun _ => trivial⟩ (by rfl) ?_; simp only [tkA, tkB, tkC]
            refine .sk 50 67 rfl rfl (by kernel_rfl) (fun _ _ _ h => h) ⟨Tk2, fun _ => trivial⟩ (by rfl) ?_; simp only [tkA, tkB, tkC]
            refine .sk 51 68 rfl rfl (by kernel_rfl) (fun _ _ _ h => h) ⟨Tk2, fun _ => trivial⟩ (by rfl) ?_; simp only [tkA, tkB, tkC]
            refine .sk 52 69 rfl rfl (by kernel_rfl) (fun _ _ _ h => h) ⟨Tk2, fun _ => trivial⟩ (by rfl) ?_; simp only [tkA, tkB, tkC]
            refine .tk 53 70 rfl rfl (by kernel_rfl) (fun _ _ _ h => h) ⟨Tk2, fun _ => trivial⟩ (by rfl) (fun w hSw => by go_simp; rfl) ?_; simp only [tkA, tkB, tkC]
            refine .tk 54 71 rfl rfl (by kernel_rfl) (fun _ _ _ h => h) ⟨Tk2, fun _ => trivial⟩ (by rfl) (fun w hSw => by go_simp; rfl) ?_; simp only [tkA, tkB, tkC]
            refine .sk 55 72 rfl rfl (by kernel_rfl) (fun _ _ _ h => h) ⟨Tk2, fun _ => trivial⟩ (by rfl) ?_; simp only [tkA, tkB, tkC]
            refine .sk 56 73 rfl rfl (by kernel_rfl) (fun _ _ _ h => h) ⟨Tk2, fun _ => trivial⟩ (by rfl) ?_; simp only [tkA, tkB, tkC]
            refine .sk 57 74 rfl rfl (by kernel_rfl) (fun _ _ _ h => h) ⟨Tk2, fun _ => trivial⟩ (by rfl) ?_; simp only [tkA, tkB, tkC]
            refine .sk 58 75 rfl rfl (by kernel_rfl) (fun _ _ _ h => h) ⟨Tk2, fun _ => trivial⟩ (by rfl) ?_; simp only [tkA, tkB, tkC]
            refine .sk 59 76 rfl rfl (by kernel_rfl) (fun _ _ _ h => h) ⟨Tk2, fun _ => trivial⟩ (by rfl) ?_; simp only [tkA, tkB, tkC]
            refine .sk 60 77 rfl rfl (by kernel_rfl) (fun _ _ _ h => h) ⟨Tk2, fun _ => trivial⟩ (by rfl) ?_; simp only [tkA, tkB, tkC]
            refine .sk 61 78 rfl rfl (by kernel_rfl) (fun _ _ _ h => h) ⟨Tk2, fun _ => trivial⟩ (by rfl) ?_; simp only [tkA, tkB, tkC]
            refine .sk 62 79 rfl rfl (by kernel_rfl) (fun _ _ _ h => h) ⟨Tk2, fun _ => trivial⟩ (by rfl) ?_; simp only [tkA, tkB, tkC]
            refine .sk 63 80 rfl rfl (by kernel_rfl) (fun _ _ _ h => h) ⟨Tk2, fun _ => trivial⟩ (by rfl) ?_; simp only [tkA, tkB, tkC]
            refine .sk 64 81 rfl rfl (by kernel_rfl) (fun _ _ _ h => h) ⟨Tk2, fun _ => trivial⟩ (by rfl) ?_; simp only [tkA, tkB, tkC]
            refine .sk 65 82 rfl rfl (by kernel_rfl) (fun _ _ _ h => h) ⟨Tk2, fun _ => trivial⟩ (by rfl) ?_; simp only [tkA, tkB, tkC]
            refine .sk 66 83 rfl rfl (by kernel_rfl) (fun _ _ _ h => h) ⟨Tk2, fun _ => trivial⟩ (by rfl) ?_; simp only [tkA, tkB, tkC]
            refine .tk 67 84 rfl rfl (by kernel_rfl) (fun _ _ _ h => h) ⟨Tk2, fun _ => trivial⟩ (by rfl) (fun w hSw => by go_simp; rfl) ?_; simp only [tkA, tkB, tkC]
            refine AnyG.done (by kernel_rfl) ?_ _
            have TF : Hd (Drw w wk2) := ⟨Tk2⟩
            clear x0 x1 x2 x3 x4 y0 y1 y2 y3 y4 K
            go_wp2_with fail
            go_ret
            exact ⟨by rw [HF.out]; rfl, TF.out⟩
        · have E0 : decide (ra.users = sa.users) = false := decide_eq_false e0
          have HF : Hd (bb = false) := ⟨HNo.out (.inl e0)⟩
          clear HNo HEq
          clear e0
          go_upto_region 6 with fail
          have T0 : Drw w wr.drew := by obtain ⟨q, hq⟩ := DW; exact ⟨q + 1, by rw [hq]; rfl⟩
          refine AnyG.start (T := Drw w) (U := fun _ => True) (j0 := 100) (by kernel_rfl) ?_
          clear DW
          generalize wr.drew = w0 at *
          refine .tk 0 17 rfl rfl (by kernel_rfl) (fun _ _ _ h => h) ⟨T0, fun _ => trivial⟩ (by rfl) (fun w hSw => by go_simp; rfl) ?_; simp only [tkA, tkB, tkC]
          refine .tk 1 18 rfl rfl (by kernel_rfl) (fun _ _ _ h => h) ⟨T0, fun _ => trivial⟩ (by rfl) (fun w hSw => by go_simp; rfl) ?_; simp only [tkA, tkB, tkC]
          refine .tk 2 19 rfl rfl (by kernel_rfl) (fun _ _ _ h => h) ⟨T0, fun _ => trivial⟩ (by rfl) (fun w hSw => by go_simp; rfl) ?_; simp only [tkA, tkB, tkC]
          refine .tk 3 20 rfl rfl (by kernel_rfl) (fun _ _ _ h => h) ⟨T0, fun _ => trivial⟩ (by rfl) (fun w hSw => by go_simp; rfl) ?_; simp only [tkA, tkB, tkC]
          refine .tk 4 21 rfl rfl (by kernel_rfl) (fun _ _ _ h => h) ⟨T0, fun _ => trivial⟩ (by rfl) (fun w hSw => by have s4 := hSw.cell x0; go_simp; rfl) ?_; simp only [tkA, tkB, tkC]
          refine .tk 5 22 rfl rfl (by kernel_rfl) (fun _ _ _ h => h) ⟨T0, fun _ => trivial⟩ (by rfl) (fun w hSw => by go_simp; rfl) ?_; simp only [tkA, tkB, tkC]
          refine .tk 6 23 rfl rfl (by kernel_rfl) (fun _ _ _ h => h) ⟨T0, fun _ => trivial⟩ (by rfl) (fun w hSw => by go_simp; rfl) ?_; simp only [tkA, tkB, tkC]
          refine .tk 7 24 rfl rfl (by kernel_rfl) (fun _ _ _ h => h) ⟨T0, fun _ => trivial⟩ (by rfl) (fun w hSw => by go_simp; rfl) ?_; simp only [tkA, tkB, tkC]
          refine .tk 8 25 rfl rfl (by kernel_rfl) (fun _ _ _ h => h) ⟨T0, fun _ => trivial⟩ (by rfl) (fun w hSw => by go_simp; rfl) ?_; simp only [tkA, tkB, tkC]
          refine .tk 9 26 rfl rfl (by kernel_rfl) (fun _ _ _ h => h) ⟨T0, fun _ => trivial⟩ (by rfl) (fun w hSw => by have s4 := hSw.cell y0; go_simp; rfl) ?_; simp only [tkA, tkB, tkC]
          refine AnyG.ready (rs := [10]) (by kernel_rfl) (by simp) ?_
          refine AllG.cons rfl (fun K1 hK => ?_) AllG.nil
          go_simp
          refine ((K.out _ T0).1).mono ?_
          rintro e wk1 ⟨rfl, Tk1⟩
          refine hK.out _ _ ⟨Tk1, fun _ => trivial⟩ ?_
          clear hK K1 T0
          rw [E0]
          refine .tk 11 28 rfl rfl (by kernel_rfl) (fun _ _ _ h => h) ⟨Tk1, fun _ => trivial⟩ (by rfl) (fun w hSw => by go_simp; rfl) ?_; simp only [tkA, tkB, tkC]
          refine .tk 12 29 rfl rfl (by kernel_rfl) (fun _ _ _ h => h) ⟨Tk1, fun _ => trivial⟩ (by rfl) (fun w hSw => by go_simp; rfl) ?_; simp only [tkA, tkB, tkC]
          refine .sk 13 30 rfl rfl (by kernel_rfl) (fun _ _ _ h => h) ⟨Tk1, fun _ => trivial⟩ (by rfl) ?_; simp only [tkA, tkB, tkC]
          refine .sk 14 31 rfl rfl (by kernel_rfl) (fun _ _ _ h => h) ⟨Tk1, fun _ => trivial⟩ (by rfl) ?_; simp only [tkA, tkB, tkC]
          refine .sk 15 32 rfl rfl (by kernel_rfl) (fun _ _ _ h => h) ⟨Tk1, fun _ => trivial⟩ (by rfl) ?_; simp only [tkA, tkB, tkC]
          refine .sk 16 33 rfl rfl (by kernel_rfl) (fun _ _ _ h => h) ⟨Tk1, fun _ => trivial⟩ (by rfl) ?_; simp only [tkA, tkB, tkC]
          refine .sk 17 34 rfl rfl (by kernel_rfl) (fun _ _ _ h => h) ⟨Tk1, fun _ => trivial⟩ (by rfl) ?_; simp only [tkA, tkB, tkC]
          refine .sk 18 35 rfl rfl (by kernel_rfl) (fun _ _ _ h => h) ⟨Tk1, fun _ => trivial⟩ (by rfl) ?_; simp only [tkA, tkB, tkC]
          refine .sk 19 36 rfl rfl (by kernel_rfl) (fun _ _ _ h => h) ⟨Tk1, fun _ => trivial⟩ (by rfl) ?_; simp only [tkA, tkB, tkC]
          refine .sk 20 37 rfl rfl (by kernel_rfl) (fun _ _ _ h => h) ⟨Tk1, fun _ => trivial⟩ (by rfl) ?_; simp only [tkA, tkB, tkC]
          refine .sk 21 38 rfl rfl (by kernel_rfl) (fun _ _ _ h => h) ⟨Tk1, fun _ => trivial⟩ (by rfl) ?_; simp only [tkA, tkB, tkC]
          refine .sk 22 39 rfl rfl (by kernel_rfl) (fun _ _ _ h => h) ⟨Tk1, fun _ => trivial⟩ (by rfl) ?_; simp only [tkA, tkB, tkC]
          refine .sk 23 40 rfl rfl (by kernel_rfl) (fun _ _ _ h => h) ⟨Tk1, fun _ => trivial⟩ (by rfl) ?_; simp only [tkA, tkB, tkC]
          refine .sk 24 41 rfl rfl (by kernel_rfl) (fun _ _ _ h => h) ⟨Tk1, fun _ => trivial⟩ (by rfl) ?_; simp only [tkA, tkB, tkC]
          refine .tk 25 42 rfl rfl (by kernel_rfl) (fun _ _ _ h => h) ⟨Tk1, fun _ => trivial⟩ (by rfl) (fun w hSw => by go_simp; rfl) ?_; simp only [tkA, tkB, tkC]
          refine .tk 26 43 rfl rfl (by kernel_rfl) (fun _ _ _ h => h) ⟨Tk1, fun _ => trivial⟩ (by rfl) (fun w hSw => by go_simp; rfl) ?_; simp only [tkA, tkB, tkC]
          refine .sk 27 44 rfl rfl (by kernel_rfl) (fun _ _ _ h => h) ⟨Tk1, fun _ => trivial⟩ (by rfl) ?_; simp only [tkA, tkB, tkC]
          refine .sk 28 45 rfl rfl (by kernel_rfl) (fun _ _ _ h => h) ⟨Tk1, fun _ => trivial⟩ (by rfl) ?_; simp only [tkA, tkB, tkC]
          refine .sk 29 46 rfl rfl (by kernel_rfl) (fun _ _ _ h => h) ⟨Tk1, fun _ => trivial⟩ (by rfl) ?_; simp only [tkA, tkB, tkC]
          refine .sk 30 47 rfl rfl (by kernel_rfl) (fun _ _ _ h => h) ⟨Tk1, fun _ => trivial⟩ (by rfl) ?_; simp only [tkA, tkB, tkC]
          refine .sk 31 48 rfl rfl (by kernel_rfl) (fun _ _ _ h => h) ⟨Tk1, fun _ => trivial⟩ (by rfl) ?_; simp only [tkA, tkB, tkC]
          refine .sk 32 49 rfl rfl (by kernel_rfl) (fun _ _ _ h => h) ⟨Tk1, fun _ => trivial⟩ (by rfl) ?_; simp only [tkA, tkB, tkC]
          refine .sk 33 50 rfl rfl (by kernel_rfl) (fun _ _ _ h => h) ⟨Tk1, fun _ => trivial⟩ (by rfl) ?_; simp only [tkA, tkB, tkC]
          refine .sk 34 51 rfl rfl (by kernel_rfl) (fun _ _ _ h => h) ⟨Tk1, fun _ => trivial⟩ (by rfl) ?_; simp only [tkA, tkB, tkC]
          refine .sk 35 52 rfl rfl (by kernel_rfl) (fun _ _ _ h => h) ⟨Tk1, fun _ => trivial⟩ (by rfl) ?_; simp only [tkA, tkB, tkC]
          refine .sk 36 53 rfl rfl (by kernel_rfl) (fun _ _ _ h => h) ⟨Tk1, fun _ => trivial⟩ (by rfl) ?_; simp only [tkA, tkB, tkC]
          refine .sk 37 54 rfl rfl (by kernel_rfl) (fun _ _ _ h => h) ⟨Tk1, fun _ => trivial⟩ (by rfl) ?_; simp only [tkA, tkB, tkC]
          refine .sk 38 55 rfl rfl (by kernel_rfl) (fun _ _ _ h => h) ⟨Tk1, fun _ => trivial⟩ (by rfl) ?_; simp only [tkA, tkB, tkC]
          refine .tk 39 56 rfl rfl (by kernel_rfl) (fun _ _ _ h => h) ⟨Tk1, fun _ => trivial⟩ (by rfl) (fun w hSw => by go_simp; rfl) ?_; simp only [tkA, tkB, tkC]
          refine .tk 40 57 rfl rfl (by kernel_rfl) (fun _ _ _ h => h) ⟨Tk1, fun _ => trivial⟩ (by rfl) (fun w hSw => by go_simp; rfl) ?_; simp only [tkA, tkB, tkC]
          refine .sk 41 58 rfl rfl (by kernel_rfl) (fun _ _ _ h => h) ⟨Tk1, fun _ => trivial⟩ (by rfl) ?_; simp only [tkA, tkB, tkC]
          refine .sk 42 59 rfl rfl (by kernel_rfl) (fun _ _ _ h => h) ⟨Tk1, fun _ => trivial⟩ (by rfl) ?_; simp only [tkA, tkB, tkC]
          refine .sk 43 60 rfl rfl (by kernel_rfl) (fun _ _ _ h => h) ⟨Tk1, fun _ => trivial⟩ (by rfl) ?_; simp only [tkA, tkB, tkC]
          refine .sk 44 61 rfl rfl (by kernel_rfl) (fun _ _ _ h => h) ⟨Tk1, fun _ => trivial⟩ (by rfl) ?_; simp only [tkA, tkB, tkC]
          refine .sk 45 62 rfl rfl (by kernel_rfl) (fun _ _ _ h => h) ⟨Tk1, fun _ => trivial⟩ (by rfl) ?_; simp only [tkA, tkB, tkC]
          refine .sk 46 63 rfl rfl (by kernel_rfl) (fun _ _ _ h => h) ⟨Tk1, fun _ => trivial⟩ (by rfl) ?_; simp only [tkA, tkB, tkC]
          refine .sk 47 64 rfl rfl (by kernel_rfl) (fun _ _ _ h => h) ⟨Tk1, fun _ => trivial⟩ (by rfl) ?_; simp only [tkA, tkB, tkC]
          refine .sk 48 65 rfl rfl (by kernel_rfl) (fun _ _ _ h => h) ⟨Tk1, fun _ => trivial⟩ (by rfl) ?_; simp only [tkA, tkB, tkC]
          refine .sk 49 66 rfl rfl (by kernel_rfl) (fun _ _ _ h => h) ⟨Tk1, fun _ => trivial⟩ (by rfl) ?_; simp only [tkA, tkB, tkC]
          refine .sk 50 67 rfl rfl (by kernel_rfl) (fun _ _ _ h => h) ⟨Tk1, fun _ => trivial⟩ (by rfl) ?_; simp only [tkA, tkB, tkC]
          refine .sk 51 68 rfl rfl (by kernel_rfl) (fun _ _ _ h => h) ⟨Tk1, fun _ => trivial⟩ (by rfl) ?_; simp only [tkA, tkB, tkC]
          refine .sk 52 69 rfl rfl (by kernel_rfl) (fun _ _ _ h => h) ⟨Tk1, fun _ => trivial⟩ (by rfl) ?_; simp only [tkA, tkB, tkC]
          refine .tk 53 70 rfl rfl (by kernel_rfl) (fun _ _ _ h => h) ⟨Tk1, fun _ => trivial⟩ (by rfl) (fun w hSw => by go_simp; rfl) ?_; simp only [tkA, tkB, tkC]
          refine .tk 54 71 rfl rfl (by kernel_rfl) (fun _ _ _ h => h) ⟨Tk1, fun _ => trivial⟩ (by rfl) (fun w hSw => by go_simp; rfl) ?_; simp only [tkA, tkB, tkC]
          refine .sk 55 72 rfl rfl (by kernel_rfl) (fun _ _ _ h => h) ⟨Tk1, fun _ => trivial⟩ (by rfl) ?_; simp only [tkA, tkB, tkC]
          refine .sk 56 73 rfl rfl (by kernel_rfl) (fun _ _ _ h => h) ⟨Tk1, fun _ => trivial⟩ (by rfl) ?_; simp only [tkA, tkB, tkC]
          refine .sk 57 74 rfl rfl (by kernel_rfl) (fun _ _ _ h => h) ⟨Tk1, fun _ => trivial⟩ (by rfl) ?_; simp only [tkA, tkB, tkC]
          refine .sk 58 75 rfl rfl (by kernel_rfl) (fun _ _ _ h => h) ⟨Tk1, fun _ => trivial⟩ (by rfl) ?_; simp only [tkA, tkB, tkC]
          refine .sk 59 76 rfl rfl (by kernel_rfl) (fun _ _ _ h => h) ⟨Tk1, fun _ => trivial⟩ (by rfl) ?_; simp only [tkA, tkB, tkC]
          refine .sk 60 77 rfl rfl (by kernel_rfl) (fun _ _ _ h => h) ⟨Tk1, fun _ => trivial⟩ (by rfl) ?_; simp only [tkA, tkB, tkC]
          refine .sk 61 78 rfl rfl (by kernel_rfl) (fun _ _ _ h => h) ⟨Tk1, fun _ => trivial⟩ (by rfl) ?_; simp only [tkA, tkB, tkC]
          refine .sk 62 79 rfl rfl (by kernel_rfl) (fun _ _ _ h => h) ⟨Tk1, fun _ => trivial⟩ (by rfl) ?_; simp only [tkA, tkB, tkC]
          refine .sk 63 80 rfl rfl (by kernel_rfl) (fun _ _ _ h => h) ⟨Tk1, fun _ => trivial⟩ (by rfl) ?_; simp only [tkA, tkB, tkC]
          refine .sk 64 81 rfl rfl (by kernel_rfl) (fun _ _ _ h => h) ⟨Tk1, fun _ => trivial⟩ (by rfl) ?_; simp only [tkA, tkB, tkC]
          refine .sk 65 82 rfl rfl (by kernel_rfl) (fun _ _ _ h => h) ⟨Tk1, fun _ => trivial⟩ (by rfl) ?_; simp only [tkA, tkB, tkC]
          refine .sk 66 83 rfl rfl (by kernel_rfl) (fun _ _ _ h => h) ⟨Tk1, fun _ => trivial⟩ (by rfl) ?_; simp only [tkA, tkB, tkC]
          refine .tk 67 84 rfl rfl (by kernel_rfl) (fun _ _ _ h => h) ⟨Tk1, fun _ => trivial⟩ (by rfl) (fun w hSw => by go_simp; rfl) ?_; simp only [tkA, tkB, tkC]
          refine AnyG.done (by kernel_rfl) ?_ _
          have TF : Hd (Drw w wk1) := ⟨Tk1⟩
          clear x0 x1 x2 x3 x4 y0 y1 y2 y3 y4 K
          go_wp2_with fail
          go_ret
          exact ⟨by rw [HF.out]; rfl, TF.out⟩
      · obtain rfl : k = n := by omega
        have HTT : Hd (bb = true) := ⟨HE.out fun j h h' => hq.out.2 j h h' (by rw [HN.out.1]; exact h)⟩
        have TF : Hd (Drw w wr) := ⟨hq.out.1⟩
        clear hq
        go_wp2_with fail
        go_ret
        exact ⟨by rw [HTT.out]; rfl, TF.out⟩
  · have HF : Hd (@decide (rs = ss) (Classical.propDecidable _) = false) := ⟨@decide_eq_false _ (Classical.propDecidable _) (fun e => hl (by rw [e]))⟩
    generalize @decide (rs = ss) (Classical.propDecidable _) = bb at *
    clear R R'
    generalize rs.length = n at *
    generalize ss.length = m at *
    go_enter Tryd.func26, Tryd.ntmps26
    go_wp2_with fail
    go_ret
    exact ⟨by rw [HF.out]; rfl, 0, rfl⟩
end Go.Proofs.YtfollcabppkihaaDoor
