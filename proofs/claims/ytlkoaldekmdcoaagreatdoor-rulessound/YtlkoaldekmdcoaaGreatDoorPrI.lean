/-
  What 'rulesFormed' and 'schemaFormed' of 'print' answer. Condition: the rules lie in memory.
-/
import Derived.Test.YtlkoaldekmdcoaaGreatDoorPrH
namespace Go.Proofs.YtlkoaldekmdcoaaGreatDoor
open Go.RowKit

theorem rlOk_no {r : Rl} (h : rlOk r = false) : ∃ j, j < 5 ∧ gt (rlJ r) j = mk [] := by
  unfold rlOk at h
  rw [List.all_eq_false] at h
  obtain ⟨x, hx, e⟩ := h
  obtain ⟨j, hj, rfl⟩ := List.getElem_of_mem hx
  refine ⟨j, hj, ?_⟩
  rw [gt_eq hj]
  simpa using e
theorem rlOk_yes {r : Rl} (h : rlOk r = true) : ∀ j, j < 5 → gt (rlJ r) j ≠ mk [] := fun j hj e => by
  unfold rlOk at h
  rw [List.all_eq_true] at h
  have hj' : j < (rlJ r).length := hj
  have := h _ (gt_mem hj')
  rw [e] at this
  simp at this
set_option maxRecDepth 20000 in
theorem rules_ok (v : Value) (rs : List Rl) (w : World) (h : RlR w v rs) :
    Calls Tryz.prog 92 #[v] w fun e w' => e = .returned (.bool (rlsOk rs)) ∧ Below w.heap.size w w' := by
  obtain ⟨a, c, rfl, hl, hr⟩ := id h
  by_cases h8 : 8 < rs.length
  · have e : rlsOk rs = false := by unfold rlsOk; rw [decide_eq_false (by omega)]; rfl
    rw [e]
    clear e hr h
    generalize rs.length = n at *
    go_enter Tryz.func92, Tryz.ntmps92
    go_wp2_with fail
    go_ret
    exact ⟨rfl, Below.refl _ _⟩
  have HB : Hd (∀ k (h : k < rs.length), rlOk rs[k] = false → rlsOk rs = false) := ⟨fun k h e => by
    cases hL : rlsOk rs with
    | false => rfl
    | true =>
      unfold rlsOk at hL
      simp only [Bool.and_eq_true, List.all_eq_true] at hL
      have := hL.2 rs[k] (List.getElem_mem h)
      rw [e] at this
      cases this⟩
  have HG : Hd ((∀ k (h : k < rs.length), rlOk rs[k] = true) → rlsOk rs = true) := ⟨fun h => by
    unfold rlsOk
    rw [decide_eq_true (by omega), Bool.true_and, List.all_eq_true]
    intro r hr
    obtain ⟨k, hk, rfl⟩ := List.getElem_of_mem hr
    exact h k hk⟩
  have HR : Hd (RlR w (.slice a rs.length c) rs) := ⟨h⟩
  generalize rlsOk rs = R at *
  obtain ⟨n, hnl⟩ : ∃ n, n = rs.length := ⟨_, rfl⟩
  have HN : Hd (n = rs.length) := ⟨hnl⟩
  rw [← hnl]
  have n8 : n ≤ 8 := by omega
  clear hr h hl h8 hnl
  go_enter Tryz.func92, Tryz.ntmps92
  go_wp2_with fail
  go_loopw [4, 10] (fun i4 i wr => ∃ k : Nat, k ≤ n ∧ i = .int .i64 k ∧ Hd ((∀ j (h : j < rs.length), j < k → rlOk rs[j] = true) ∧ Below w.heap.size w wr)) (fun _ i _ => n - (intOf i).toNat)
  case atStart => exact ⟨0, Nat.zero_le _, rfl, ⟨fun _ _ h => absurd h (Nat.not_lt_zero _), Below.refl _ _⟩⟩
  case round =>
    obtain ⟨k, hk, rfl, hI⟩ := hrel
    by_cases hlt : k < n
    · have hkL : k < rs.length := by rw [← HN.out]; exact hlt
      obtain ⟨a', c', e', -, hrow⟩ := HR.out.carry hI.out.2
      injection e' with e1 e2 e3
      subst e1 e3
      obtain ⟨b, off, rfl, hb, hcs⟩ := hrow (by omega)
      obtain ⟨v0, v1, v2, v3, v4, ⟨x0, x1, x2, x3, x4⟩, hru⟩ := hcs k hkL
      have HBad : Hd (rlOk rs[k] = false → R = false) := ⟨HB.out k hkL⟩
      have HStep : Hd (rlOk rs[k] = true → ∀ j (h : j < rs.length), j < k + 1 → rlOk rs[j] = true) := ⟨fun h1 j hj hjk => by
        rcases Nat.lt_or_eq_of_le (Nat.le_of_lt_succ hjk) with h' | h'
        · exact hI.out.1 j hj h'
        · subst h'; exact h1⟩
      obtain ⟨⟨q0, p0, e0, -⟩, ⟨q1, p1, e1, -⟩, ⟨q2, p2, e2, -⟩, ⟨q3, p3, e3, -⟩, ⟨q4, p4, e4, -⟩⟩ := id hru
      have AL := alloc_below wr (.cells #[v0, v1, v2, v3, v4] 51)
      have RW := ruleWords_ok v0 v1 v2 v3 v4 rs[k] _ (hru.carry AL)
      have B1 : Hd (Below w.heap.size w (wr.alloc (.cells #[v0, v1, v2, v3, v4] 51))) := ⟨hI.out.2.trans (AL.mono hI.out.2.size)⟩
      have NB := Blk.new wr 51 #[v0, v1, v2, v3, v4]
      have HK : Hd (k < n) := ⟨hlt⟩
      clear hcs hrow hru AL hI
      generalize rs[k] = r at *
      clear hkL
      generalize hn0 : r.users.length = m0 at e0
      generalize hn1 : r.groups.length = m1 at e1
      generalize hn2 : r.verbs.length = m2 at e2
      generalize hn3 : r.resources.length = m3 at e3
      generalize hn4 : r.spaces.length = m4 at e4
      subst e0 e1 e2 e3 e4
      clear hn0 hn1 hn2 hn3 hn4
      have i1 : (k : Int) < (n : Int) := by omega
      go_upto_region 6 with fail
      generalize wr.alloc _ = w1 at *
      generalize wr.heap.size = g at *
      clear x0 x1 x2 x3 x4
      have d0 := NB.cellv 0 rfl
      have d1 := NB.cellv 1 rfl
      have d2 := NB.cellv 2 rfl
      have d3 := NB.cellv 3 rfl
      have d4 := NB.cellv 4 rfl
      simp at d0 d1 d2 d3 d4
      clear NB
      go_wp2_with fail
      go_at_call 105
      refine RW.mono ?_
      rintro e w2 ⟨a2, rfl, r2, b2⟩
      have B2 : Hd (Below w.heap.size w w2) := ⟨B1.out.trans (b2.mono B1.out.size)⟩
      clear RW b2 B1 d0 d1 d2 d3 d4
      cases hok : rlOk r with
      | false =>
        have CY := contains_yes a2 5 5 (rlJ r) (mk []) w2 r2 (by show 5 ≤ 5; omega) (by omega) (rlOk_no hok)
        have hR := HBad.out hok
        subst hR
        clear hok
        go_wp2_with (go_at_call 104; refine CY.mono ?_; rintro e w3 ⟨rfl, rfl⟩)
        go_ret
        exact ⟨rfl, B2.out⟩
      | true =>
        have CN := contains_no a2 5 5 (rlJ r) (mk []) w2 r2 (by show 5 ≤ 5; omega) (by omega) (rlOk_yes hok)
        have F3 : Hd ((∀ j (h : j < rs.length), j < k + 1 → rlOk rs[j] = true) ∧ Below w.heap.size w w2) := ⟨HStep.out hok, B2.out⟩
        clear hok
        go_wp2_with (go_at_call 104; refine CN.mono ?_; rintro e w3 ⟨rfl, hw⟩; obtain rfl := hw.symm)
        go_roundw
        case rel =>
          first
            | exact ⟨k + 1, HK.out, by go_num, F3⟩
            | ((repeat apply Exists.intro); exact ⟨⟨k + 1, HK.out, by go_num, F3⟩, rfl⟩)
        case measure => have := HK.out; simp [intOf]; omega
    · obtain rfl : k = n := by omega
      have hR := HG.out fun j h => hI.out.1 j h (by rw [HN.out]; exact h)
      subst hR
      go_wp2_with fail
      go_ret
      exact ⟨rfl, hI.out.2⟩

theorem byIs_word (n : Int) : (byW n).toList.isEmpty = !byIs n := by
  rw [ByteArray.toList_eq]
  unfold byW byIs
  by_cases h0 : n = 0
  · rw [if_pos h0, h0]; rfl
  rw [if_neg h0]
  by_cases h1 : n = 1
  · rw [if_pos h1, h1]; rfl
  rw [if_neg h1]
  by_cases h2 : n = 2
  · rw [if_pos h2, h2]; rfl
  rw [if_neg h2]
  simp [h0, h1, h2, mk]
set_option maxRecDepth 20000 in
theorem schema_ok (s : Sc) (v : Value) (w : World) (h : RlR w v s.rules) (h1 : s.name.size ≤ 9223372036854775807) (h2 : s.level.size ≤ 9223372036854775807) :
    Calls Tryz.prog 72 #[.agg #[.string s.name, .string s.level, .int .i64 s.rank, .int .i64 s.way, v]] w fun e w' => e = .returned (.bool (scOk s)) ∧ Below w.heap.size w w' := by
  have N1 := fun W => name_ok s.name h1 W
  have N2 := fun W => name_ok s.level h2 W
  have N3 := fun W => within_ok s.rank 1 10000 W
  have N4 := fun W => by_ok s.way W
  have hby := byIs_word s.way
  have AL := alloc_below w (.cells #[.string s.name, .string s.level, .int .i64 s.rank, .int .i64 s.way, v] 46)
  have NB := Blk.new w 46 #[.string s.name, .string s.level, .int .i64 s.rank, .int .i64 s.way, v]
  have RU := rules_ok v s.rules _ (h.carry AL)
  obtain ⟨a, c, rfl, -⟩ := h
  have e : scOk s = (isName s.name && (isName s.level && (inI s.rank 1 10000 && (byIs s.way && rlsOk s.rules)))) := rfl
  rw [e]
  clear e h1 h2
  generalize s.rules.length = n at *
  generalize isName s.name = p1 at *
  generalize isName s.level = p2 at *
  generalize inI s.rank 1 10000 = p3 at *
  generalize byIs s.way = p4 at *
  generalize rlsOk s.rules = p5 at *
  generalize byW s.way = y at *
  go_enter Tryz.func72, Tryz.ntmps72
  go_upto_region 1 with fail
  generalize w.alloc _ = w1 at *
  have d0 := NB.cellv 0 rfl
  have d1 := NB.cellv 1 rfl
  have d2 := NB.cellv 2 rfl
  have d3 := NB.cellv 3 rfl
  have d4 := NB.cellv 4 rfl
  simp at d0 d1 d2 d3 d4
  clear NB
  cases p1 with
  | false =>
    go_wp2_with (go_at_call 88; with_reducible refine (N1 _).mono ?_; rintro e w' ⟨rfl, rfl⟩)
    go_ret
    exact ⟨rfl, AL⟩
  | true =>
    go_wp2_with fail
    go_at_call 88
    refine (N1 _).mono ?_
    rintro e w2 ⟨rfl, hw⟩
    obtain rfl := hw.symm
    cases p2 with
    | false =>
      go_wp2_with fail
      go_at_call 88
      refine (N2 _).mono ?_
      rintro e w2 ⟨rfl, hw⟩
      obtain rfl := hw.symm
      go_wp2_with fail
      go_ret
      exact ⟨rfl, AL⟩
    | true =>
      go_wp2_with fail
      go_at_call 88
      refine (N2 _).mono ?_
      rintro e w2 ⟨rfl, hw⟩
      obtain rfl := hw.symm
      cases p3 with
      | false =>
        go_wp2_with (go_at_call 44; refine (N3 _).mono ?_; rintro e w' ⟨rfl, hw⟩; obtain rfl := hw.symm)
        go_ret
        exact ⟨rfl, AL⟩
      | true =>
        cases p4 with
        | false =>
          go_wp2_with (first | (go_at_call 44; refine (N3 _).mono ?_; rintro e w' ⟨rfl, hw⟩; obtain rfl := hw.symm) | (go_at_call 91; refine (N4 _).mono ?_; rintro e w' ⟨rfl, hw⟩; obtain rfl := hw.symm))
          go_ret
          exact ⟨rfl, AL⟩
        | true =>
          go_wp2_with (first | (go_at_call 44; refine (N3 _).mono ?_; rintro e w' ⟨rfl, hw⟩; obtain rfl := hw.symm) | (go_at_call 91; refine (N4 _).mono ?_; rintro e w' ⟨rfl, hw⟩; obtain rfl := hw.symm) | (go_at_call 92; refine RU.mono ?_; rintro e w' ⟨rfl, b2⟩))
          go_ret
          exact ⟨rfl, AL.trans (b2.mono AL.size)⟩
end Go.Proofs.YtlkoaldekmdcoaaGreatDoor
