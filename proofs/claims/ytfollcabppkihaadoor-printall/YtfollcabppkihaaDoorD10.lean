/-
  What 'ruleWords' of 'print' answers. Condition: the rule's lists lie in memory.
  What 'rulesFormed' and 'schemaFormed' of 'print' answer. Condition: the rules lie in memory.
-/
import Derived.Test.YtfollcabppkihaaDoorD6
import Derived.Test.YtfollcabppkihaaDoorD9
namespace Go.Proofs.YtfollcabppkihaaDoor
open Go.RowKit

theorem LsR.join {w : World} {v : Value} {L : List ByteArray} (h : LsR w v L) : Calls Tryd.prog 50 #[v] w fun e w' => e = .returned (.string (joinB L)) ∧ Below w.heap.size w w' := by
  obtain ⟨a, c, rfl, hr, hc, hm, hs⟩ := h
  exact join_ok a c L w hr (fun k hk => hs _ (gt_mem hk)) hc (by omega)
theorem five_row (w : World) (x0 x1 x2 x3 x4 : ByteArray) : RowL (w.alloc (.cells #[.string x0, .string x1, .string x2, .string x3, .string x4] 9)) (some ⟨w.heap.size, 0, none⟩) [x0, x1, x2, x3, x4] := fun _ => by
  have n := Blk.new w 9 #[.string x0, .string x1, .string x2, .string x3, .string x4]
  refine ⟨w.heap.size, 0, rfl, n.lt, fun k hk => ?_⟩
  rw [Nat.zero_add, n.cell k]
  match k, hk with
  | 0, _ => rfl
  | 1, _ => rfl
  | 2, _ => rfl
  | 3, _ => rfl
  | 4, _ => rfl
set_option maxRecDepth 20000 in
set_option maxHeartbeats 2000000 in
theorem ruleWords_ok (v0 v1 v2 v3 v4 : Value) (r : Rl) (w : World) (h : RuR w v0 v1 v2 v3 v4 r) :
    Calls Tryd.prog 31 #[.agg #[v0, v1, v2, v3, v4]] w fun e w' => ∃ a, e = .returned (.slice a 5 5) ∧ RowL w' a (rlJ r) ∧ Below w.heap.size w w' := by
  have HJ : Hd (RuR w v0 v1 v2 v3 v4 r) := ⟨h⟩
  obtain ⟨⟨a0, c0, rfl, -⟩, ⟨a1, c1, rfl, -⟩, ⟨a2, c2, rfl, -⟩, ⟨a3, c3, rfl, -⟩, ⟨a4, c4, rfl, -⟩⟩ := h
  have e5 : rlJ r = [joinB r.users, joinB r.groups, joinB r.verbs, joinB r.resources, joinB r.spaces] := rfl
  rw [e5]
  clear e5
  have J0 : Hd (∀ W, Below w.heap.size w W → Calls Tryd.prog 50 #[.slice a0 r.users.length c0] W fun e w' => e = .returned (.string (joinB r.users)) ∧ Below W.heap.size W w') := ⟨fun W hW => (HJ.out.1.carry hW).join⟩
  have J1 : Hd (∀ W, Below w.heap.size w W → Calls Tryd.prog 50 #[.slice a1 r.groups.length c1] W fun e w' => e = .returned (.string (joinB r.groups)) ∧ Below W.heap.size W w') := ⟨fun W hW => (HJ.out.2.1.carry hW).join⟩
  have J2 : Hd (∀ W, Below w.heap.size w W → Calls Tryd.prog 50 #[.slice a2 r.verbs.length c2] W fun e w' => e = .returned (.string (joinB r.verbs)) ∧ Below W.heap.size W w') := ⟨fun W hW => (HJ.out.2.2.1.carry hW).join⟩
  have J3 : Hd (∀ W, Below w.heap.size w W → Calls Tryd.prog 50 #[.slice a3 r.resources.length c3] W fun e w' => e = .returned (.string (joinB r.resources)) ∧ Below W.heap.size W w') := ⟨fun W hW => (HJ.out.2.2.2.1.carry hW).join⟩
  have J4 : Hd (∀ W, Below w.heap.size w W → Calls Tryd.prog 50 #[.slice a4 r.spaces.length c4] W fun e w' => e = .returned (.string (joinB r.spaces)) ∧ Below W.heap.size W w') := ⟨fun W hW => (HJ.out.2.2.2.2.carry hW).join⟩
  clear HJ
  generalize joinB r.users = x0 at *
  generalize joinB r.groups = x1 at *
  generalize joinB r.verbs = x2 at *
  generalize joinB r.resources = x3 at *
  generalize joinB r.spaces = x4 at *
  generalize r.users.length = n0 at *
  generalize r.groups.length = n1 at *
  generalize r.verbs.length = n2 at *
  generalize r.resources.length = n3 at *
  generalize r.spaces.length = n4 at *
  have AL := alloc_below w (.cells #[.slice a0 n0 c0, .slice a1 n1 c1, .slice a2 n2 c2, .slice a3 n3 c3, .slice a4 n4 c4] 43)
  have NB := Blk.new w 43 #[.slice a0 n0 c0, .slice a1 n1 c1, .slice a2 n2 c2, .slice a3 n3 c3, .slice a4 n4 c4]
  go_enter Tryd.func31, Tryd.ntmps31
  go_upto_region 1 with fail
  generalize w.alloc _ = w1 at *
  have DR : Below w1.heap.size w1 w1.drew := ⟨rfl, rfl, rfl, Nat.le_refl _, fun _ _ => rfl⟩
  have B0 : Below w.heap.size w w1.drew := AL.trans (DR.mono AL.size)
  have A0 := NB.kept (Kept.of_below DR (fun _ => False)) id
  refine AnyG.start (T := fun w' => Blk w' w.heap.size 43 #[.slice a0 n0 c0, .slice a1 n1 c1, .slice a2 n2 c2, .slice a3 n3 c3, .slice a4 n4 c4]) (U := fun _ => True) (j0 := 100) (by kernel_rfl) ?_
  clear DR AL NB
  generalize w1.drew = w0 at *
  refine .tk 0 3 rfl rfl (by kernel_rfl) (fun _ _ _ h => h) ⟨A0, fun _ => trivial⟩ (by rfl) (fun w hSw => by go_simp; rfl) ?_; simp only [tkA, tkB, tkC]
  refine .tk 1 4 rfl rfl (by kernel_rfl) (fun _ _ _ h => h) ⟨A0, fun _ => trivial⟩ (by rfl) (fun w hSw => by have s4 := hSw.cellv (v := .slice a0 n0 c0) 0 rfl; go_simp; rfl) ?_; simp only [tkA, tkB, tkC]
  refine .tk 3 6 rfl rfl (by kernel_rfl) (fun _ _ _ h => h) ⟨A0, fun _ => trivial⟩ (by rfl) (fun w hSw => by go_simp; rfl) ?_; simp only [tkA, tkB, tkC]
  refine .tk 4 7 rfl rfl (by kernel_rfl) (fun _ _ _ h => h) ⟨A0, fun _ => trivial⟩ (by rfl) (fun w hSw => by have s4 := hSw.cellv (v := .slice a1 n1 c1) 1 rfl; go_simp; rfl) ?_; simp only [tkA, tkB, tkC]
  refine .tk 6 9 rfl rfl (by kernel_rfl) (fun _ _ _ h => h) ⟨A0, fun _ => trivial⟩ (by rfl) (fun w hSw => by go_simp; rfl) ?_; simp only [tkA, tkB, tkC]
  refine .tk 7 10 rfl rfl (by kernel_rfl) (fun _ _ _ h => h) ⟨A0, fun _ => trivial⟩ (by rfl) (fun w hSw => by have s4 := hSw.cellv (v := .slice a2 n2 c2) 2 rfl; go_simp; rfl) ?_; simp only [tkA, tkB, tkC]
  refine .tk 9 12 rfl rfl (by kernel_rfl) (fun _ _ _ h => h) ⟨A0, fun _ => trivial⟩ (by rfl) (fun w hSw => by go_simp; rfl) ?_; simp only [tkA, tkB, tkC]
  refine .tk 10 13 rfl rfl (by kernel_rfl) (fun _ _ _ h => h) ⟨A0, fun _ => trivial⟩ (by rfl) (fun w hSw => by have s4 := hSw.cellv (v := .slice a3 n3 c3) 3 rfl; go_simp; rfl) ?_; simp only [tkA, tkB, tkC]
  refine .tk 12 15 rfl rfl (by kernel_rfl) (fun _ _ _ h => h) ⟨A0, fun _ => trivial⟩ (by rfl) (fun w hSw => by go_simp; rfl) ?_; simp only [tkA, tkB, tkC]
  refine .tk 13 16 rfl rfl (by kernel_rfl) (fun _ _ _ h => h) ⟨A0, fun _ => trivial⟩ (by rfl) (fun w hSw => by have s4 := hSw.cellv (v := .slice a4 n4 c4) 4 rfl; go_simp; rfl) ?_; simp only [tkA, tkB, tkC]
  refine AnyG.ready (rs := [2]) (by kernel_rfl) (by simp) ?_
  refine AllG.cons rfl (fun K hK => ?_) AllG.nil
  go_simp
  refine (J0.out w0 B0).mono ?_
  rintro e wk1 ⟨rfl, b1⟩
  have Ak1 := A0.kept (Kept.of_below b1 (fun _ => False)) id
  have Bk1 : Below w.heap.size w wk1 := B0.trans (b1.mono B0.size)
  refine hK.out _ _ ⟨Ak1, fun _ => trivial⟩ ?_
  clear hK K b1 A0 B0
  refine AnyG.ready (rs := [5]) (by kernel_rfl) (by simp) ?_
  refine AllG.cons rfl (fun K hK => ?_) AllG.nil
  go_simp
  refine (J1.out wk1 Bk1).mono ?_
  rintro e wk2 ⟨rfl, b2⟩
  have Ak2 := Ak1.kept (Kept.of_below b2 (fun _ => False)) id
  have Bk2 : Below w.heap.size w wk2 := Bk1.trans (b2.mono Bk1.size)
  refine hK.out _ _ ⟨Ak2, fun _ => trivial⟩ ?_
  clear hK K b2 Ak1 Bk1
  refine AnyG.ready (rs := [8]) (by kernel_rfl) (by simp) ?_
  refine AllG.cons rfl (fun K hK => ?_) AllG.nil
  go_simp
  refine (J2.out wk2 Bk2).mono ?_
  rintro e wk3 ⟨rfl, b3⟩
  have Ak3 := Ak2.kept (Kept.of_below b3 (fun _ => False)) id
  have Bk3 : Below w.heap.size w wk3 := Bk2.trans (b3.mono Bk2.size)
  refine hK.out _ _ ⟨Ak3, fun _ => trivial⟩ ?_
  clear hK K b3 Ak2 Bk2
  refine AnyG.ready (rs := [11]) (by kernel_rfl) (by simp) ?_
  refine AllG.cons rfl (fun K hK => ?_) AllG.nil
  go_simp
  refine (J3.out wk3 Bk3).mono ?_
  rintro e wk4 ⟨rfl, b4⟩
  have Ak4 := Ak3.kept (Kept.of_below b4 (fun _ => False)) id
  have Bk4 : Below w.heap.size w wk4 := Bk3.trans (b4.mono Bk3.size)
  refine hK.out _ _ ⟨Ak4, fun _ => trivial⟩ ?_
  clear hK K b4 Ak3 Bk3
  refine AnyG.ready (rs := [14]) (by kernel_rfl) (by simp) ?_
  refine AllG.cons rfl (fun K hK => ?_) AllG.nil
  go_simp
  refine (J4.out wk4 Bk4).mono ?_
  rintro e wk5 ⟨rfl, b5⟩
  have Ak5 := Ak4.kept (Kept.of_below b5 (fun _ => False)) id
  have Bk5 : Below w.heap.size w wk5 := Bk4.trans (b5.mono Bk4.size)
  refine hK.out _ _ ⟨Ak5, fun _ => trivial⟩ ?_
  clear hK K b5 Ak4 Bk4
  refine AnyG.ready (rs := [15]) (by kernel_rfl) (by simp) ?_
  refine AllG.cons rfl (fun K hK => ?_) AllG.nil
  go_simp
  have AL6 := alloc_below wk5 (.cells #[.string x0, .string x1, .string x2, .string x3, .string x4] 9)
  have Ak6 := Ak5.kept (Kept.of_below AL6 (fun _ => False)) id
  have Bk6 : Below w.heap.size w (wk5.alloc (.cells #[.string x0, .string x1, .string x2, .string x3, .string x4] 9)) := Bk5.trans (AL6.mono Bk5.size)
  have RW := five_row wk5 x0 x1 x2 x3 x4
  refine hK.out _ _ ⟨Ak6, fun _ => trivial⟩ ?_
  clear hK K AL6 Ak5 Bk5
  generalize wk5.alloc (.cells #[.string x0, .string x1, .string x2, .string x3, .string x4] 9) = wk6 at *
  generalize wk5.heap.size = gk6 at *
  refine .tk 16 2 rfl rfl (by kernel_rfl) (fun _ _ _ h => h) ⟨Ak6, fun _ => trivial⟩ (by rfl) (fun w hSw => by go_simp; rfl) ?_; simp only [tkA, tkB, tkC]
  refine AnyG.done (by kernel_rfl) ?_ _
  go_wp2_with fail
  go_ret
  exact ⟨_, rfl, RW, Bk6⟩
end Go.Proofs.YtfollcabppkihaaDoor

namespace Go.Proofs.YtfollcabppkihaaDoor
open Go.RowKit

theorem rlOk_no {r : Rl} (h : rlOk r = false) : ∃ j, j < 5 ∧ gt (rlJ r) j = mk [] := by
  unfold rlOk at h
  rw [List.all_eq_false] at h
  obtain ⟨x, hx, e⟩ := h
  obtain ⟨j, hj, rfl⟩ := List.getElem_of_mem hx
  refine ⟨j, hj, ?_⟩
  rw [gt_eq hj]
  simpa using e
theorem rlOk_yes {r : Rl} (h : rlOk r = true) : ∀ j, j < 5 → gt (rlJ r) j ≠ mk [] := fun j hj e => by
  unfold rlOk at h
  rw [List.all_eq_true] at h
  have hj' : j < (rlJ r).length := hj
  have := h _ (gt_mem hj')
  rw [e] at this
  simp at this
set_option maxRecDepth 20000 in
theorem rules_ok (v : Value) (rs : List Rl) (w : World) (h : RlR w v rs) :
    Calls Tryd.prog 60 #[v] w fun e w' => e = .returned (.bool (rlsOk rs)) ∧ Below w.heap.size w w' := by
  obtain ⟨a, c, rfl, hl, hr⟩ := id h
  by_cases h8 : 8 < rs.length
  · have e : rlsOk rs = false := by unfold rlsOk; rw [decide_eq_false (by omega)]; rfl
    rw [e]
    clear e hr h
    generalize rs.length = n at *
    go_enter Tryd.func60, Tryd.ntmps60
    go_wp2_with fail
    go_ret
    exact ⟨rfl, Below.refl _ _⟩
  have HB : Hd (∀ k (h : k < rs.length), rlOk rs[k] = false → rlsOk rs = false) := ⟨fun k h e => by
    cases hL : rlsOk rs with
    | false => rfl
    | true =>
      unfold rlsOk at hL
      simp only [Bool.and_eq_true, List.all_eq_true] at hL
      have := hL.2 rs[k] (List.getElem_mem h)
      rw [e] at this
      cases this⟩
  have HG : Hd ((∀ k (h : k < rs.length), rlOk rs[k] = true) → rlsOk rs = true) := ⟨fun h => by
    unfold rlsOk
    rw [decide_eq_true (by omega), Bool.true_and, List.all_eq_true]
    intro r hr
    obtain ⟨k, hk, rfl⟩ := List.getElem_of_mem hr
    exact h k hk⟩
  have HR : Hd (RlR w (.slice a rs.length c) rs) := ⟨h⟩
  generalize rlsOk rs = R at *
  obtain ⟨n, hnl⟩ : ∃ n, n = rs.length := ⟨_, rfl⟩
  have HN : Hd (n = rs.length) := ⟨hnl⟩
  rw [← hnl]
  have n8 : n ≤ 8 := by omega
  clear hr h hl h8 hnl
  go_enter Tryd.func60, Tryd.ntmps60
  go_wp2_with fail
  go_loopw [4, 10] (fun i4 i wr => ∃ k : Nat, k ≤ n ∧ i = .int .i64 k ∧ Hd ((∀ j (h : j < rs.length), j < k → rlOk rs[j] = true) ∧ Below w.heap.size w wr)) (fun _ i _ => n - (intOf i).toNat)
  case atStart => exact ⟨0, Nat.zero_le _, rfl, ⟨fun _ _ h => absurd h (Nat.not_lt_zero _), Below.refl _ _⟩⟩
  case round =>
    obtain ⟨k, hk, rfl, hI⟩ := hrel
    by_cases hlt : k < n
    · have hkL : k < rs.length := by rw [← HN.out]; exact hlt
      obtain ⟨a', c', e', -, hrow⟩ := HR.out.carry hI.out.2
      injection e' with e1 e2 e3
      subst e1 e3
      obtain ⟨b, off, rfl, hb, hcs⟩ := hrow (by omega)
      obtain ⟨v0, v1, v2, v3, v4, ⟨x0, x1, x2, x3, x4⟩, hru⟩ := hcs k hkL
      have HBad : Hd (rlOk rs[k] = false → R = false) := ⟨HB.out k hkL⟩
      have HStep : Hd (rlOk rs[k] = true → ∀ j (h : j < rs.length), j < k + 1 → rlOk rs[j] = true) := ⟨fun h1 j hj hjk => by
        rcases Nat.lt_or_eq_of_le (Nat.le_of_lt_succ hjk) with h' | h'
        · exact hI.out.1 j hj h'
        · subst h'; exact h1⟩
      obtain ⟨⟨q0, p0, e0, -⟩, ⟨q1, p1, e1, -⟩, ⟨q2, p2, e2, -⟩, ⟨q3, p3, e3, -⟩, ⟨q4, p4, e4, -⟩⟩ := id hru
      have AL := alloc_below wr (.cells #[v0, v1, v2, v3, v4] 43)
      have RW := ruleWords_ok v0 v1 v2 v3 v4 rs[k] _ (hru.carry AL)
      have B1 : Hd (Below w.heap.size w (wr.alloc (.cells #[v0, v1, v2, v3, v4] 43))) := ⟨hI.out.2.trans (AL.mono hI.out.2.size)⟩
      have NB := Blk.new wr 43 #[v0, v1, v2, v3, v4]
      have HK : Hd (k < n) := ⟨hlt⟩
      clear hcs hrow hru AL hI
      generalize rs[k] = r at *
      clear hkL
      generalize hn0 : r.users.length = m0 at e0
      generalize hn1 : r.groups.length = m1 at e1
      generalize hn2 : r.verbs.length = m2 at e2
      generalize hn3 : r.resources.length = m3 at e3
      generalize hn4 : r.spaces.length = m4 at e4
      subst e0 e1 e2 e3 e4
      clear hn0 hn1 hn2 hn3 hn4
      have i1 : (k : Int) < (n : Int) := by omega
      go_upto_region 6 with fail
      generalize wr.alloc _ = w1 at *
      generalize wr.heap.size = g at *
      clear x0 x1 x2 x3 x4
      have d0 := NB.cellv 0 rfl
      have d1 := NB.cellv 1 rfl
      have d2 := NB.cellv 2 rfl
      have d3 := NB.cellv 3 rfl
      have d4 := NB.cellv 4 rfl
      simp at d0 d1 d2 d3 d4
      clear NB
      go_wp2_with fail
      go_at_call 31
      refine RW.mono ?_
      rintro e w2 ⟨a2, rfl, r2, b2⟩
      have B2 : Hd (Below w.heap.size w w2) := ⟨B1.out.trans (b2.mono B1.out.size)⟩
      clear RW b2 B1 d0 d1 d2 d3 d4
      cases hok : rlOk r with
      | false =>
        have CY := contains_yes a2 5 5 (rlJ r) (mk []) w2 r2 (by show 5 ≤ 5; omega) (by omega) (rlOk_no hok)
        have hR := HBad.out hok
        subst hR
        clear hok
        go_wp2_with (go_at_call 72; refine CY.mono ?_; rintro e w3 ⟨rfl, rfl⟩)
        go_ret
        exact ⟨rfl, B2.out⟩
      | true =>
        have CN := contains_no a2 5 5 (rlJ r) (mk []) w2 r2 (by show 5 ≤ 5; omega) (by omega) (rlOk_yes hok)
        have F3 : Hd ((∀ j (h : j < rs.length), j < k + 1 → rlOk rs[j] = true) ∧ Below w.heap.size w w2) := ⟨HStep.out hok, B2.out⟩
        clear hok
        go_wp2_with (go_at_call 72; refine CN.mono ?_; rintro e w3 ⟨rfl, hw⟩; obtain rfl := hw.symm)
        go_roundw
        case rel =>
          first
            | exact ⟨k + 1, HK.out, by go_num, F3⟩
            | ((repeat apply Exists.intro); exact ⟨⟨k + 1, HK.out, by go_num, F3⟩, rfl⟩)
        case measure => have := HK.out; simp [intOf]; omega
    · obtain rfl : k = n := by omega
      have hR := HG.out fun j h => hI.out.1 j h (by rw [HN.out]; exact h)
      subst hR
      go_wp2_with fail
      go_ret
      exact ⟨rfl, hI.out.2⟩

theorem byIs_word (n : Int) : (byW n).toList.isEmpty = !byIs n := by
  rw [ByteArray.toList_eq]
  unfold byW byIs
  by_cases h0 : n = 0
  · rw [if_pos h0, h0]; rfl
  rw [if_neg h0]
  by_cases h1 : n = 1
  · rw [if_pos h1, h1]; rfl
  rw [if_neg h1]
  by_cases h2 : n = 2
  · rw [if_pos h2, h2]; rfl
  rw [if_neg h2]
  simp [h0, h1, h2, mk]
set_option maxRecDepth 20000 in
theorem schema_ok (s : Sc) (v : Value) (w : World) (h : RlR w v s.rules) (h1 : s.name.size ≤ 9223372036854775807) (h2 : s.level.size ≤ 9223372036854775807) :
    Calls Tryd.prog 42 #[.agg #[.string s.name, .string s.level, .int .i64 s.rank, .int .i64 s.way, v]] w fun e w' => e = .returned (.bool (scOk s)) ∧ Below w.heap.size w w' := by
  have N1 := fun W => name_ok s.name h1 W
  have N2 := fun W => name_ok s.level h2 W
  have N3 := fun W => within_ok s.rank 1 10000 W
  have N4 := fun W => by_ok s.way W
  have hby := byIs_word s.way
  have AL := alloc_below w (.cells #[.string s.name, .string s.level, .int .i64 s.rank, .int .i64 s.way, v] 40)
  have NB := Blk.new w 40 #[.string s.name, .string s.level, .int .i64 s.rank, .int .i64 s.way, v]
  have RU := rules_ok v s.rules _ (h.carry AL)
  obtain ⟨a, c, rfl, -⟩ := h
  have e : scOk s = (isName s.name && (isName s.level && (inI s.rank 1 10000 && (byIs s.way && rlsOk s.rules)))) := rfl
  rw [e]
  clear e h1 h2
  generalize s.rules.length = n at *
  generalize isName s.name = p1 at *
  generalize isName s.level = p2 at *
  generalize inI s.rank 1 10000 = p3 at *
  generalize byIs s.way = p4 at *
  generalize rlsOk s.rules = p5 at *
  generalize byW s.way = y at *
  go_enter Tryd.func42, Tryd.ntmps42
  go_upto_region 1 with fail
  generalize w.alloc _ = w1 at *
  have d0 := NB.cellv 0 rfl
  have d1 := NB.cellv 1 rfl
  have d2 := NB.cellv 2 rfl
  have d3 := NB.cellv 3 rfl
  have d4 := NB.cellv 4 rfl
  simp at d0 d1 d2 d3 d4
  clear NB
  cases p1 with
  | false =>
    go_wp2_with (go_at_call 56; with_reducible refine (N1 _).mono ?_; rintro e w' ⟨rfl, rfl⟩)
    go_ret
    exact ⟨rfl, AL⟩
  | true =>
    go_wp2_with fail
    go_at_call 56
    refine (N1 _).mono ?_
    rintro e w2 ⟨rfl, hw⟩
    obtain rfl := hw.symm
    cases p2 with
    | false =>
      go_wp2_with fail
      go_at_call 56
      refine (N2 _).mono ?_
      rintro e w2 ⟨rfl, hw⟩
      obtain rfl := hw.symm
      go_wp2_with fail
      go_ret
      exact ⟨rfl, AL⟩
    | true =>
      go_wp2_with fail
      go_at_call 56
      refine (N2 _).mono ?_
      rintro e w2 ⟨rfl, hw⟩
      obtain rfl := hw.symm
      cases p3 with
      | false =>
        go_wp2_with (go_at_call 20; refine (N3 _).mono ?_; rintro e w' ⟨rfl, hw⟩; obtain rfl := hw.symm)
        go_ret
        exact ⟨rfl, AL⟩
      | true =>
        cases p4 with
        | false =>
          go_wp2_with (first | (go_at_call 20; refine (N3 _).mono ?_; rintro e w' ⟨rfl, hw⟩; obtain rfl := hw.symm) | (go_at_call 30; refine (N4 _).mono ?_; rintro e w' ⟨rfl, hw⟩; obtain rfl := hw.symm))
          go_ret
          exact ⟨rfl, AL⟩
        | true =>
          go_wp2_with (first | (go_at_call 20; refine (N3 _).mono ?_; rintro e w' ⟨rfl, hw⟩; obtain rfl := hw.symm) | (go_at_call 30; refine (N4 _).mono ?_; rintro e w' ⟨rfl, hw⟩; obtain rfl := hw.symm) | (go_at_call 60; refine RU.mono ?_; rintro e w' ⟨rfl, b2⟩))
          go_ret
          exact ⟨rfl, AL.trans (b2.mono AL.size)⟩
end Go.Proofs.YtfollcabppkihaaDoor
