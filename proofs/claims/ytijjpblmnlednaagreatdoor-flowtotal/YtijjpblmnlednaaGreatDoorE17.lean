/-
  What 'rulesFormed' and 'schemaFormed' of 'print' answer.
  What 'schemasFormed' and 'Formed' of 'print' answer.
-/
import Derived.Test.YtijjpblmnlednaaGreatDoorE16
namespace Go.Proofs.YtijjpblmnlednaaGreatDoor
open Go.RowKit
theorem rlOk_no {r : Rl} (h : rlOk r = false) : ∃ j, j < 5 ∧ gt (rlJ r) j = mk [] := by
  unfold rlOk at h
  rw [List.all_eq_false] at h
  obtain ⟨x, hx, e⟩ := h
  obtain ⟨j, hj, rfl⟩ := List.getElem_of_mem hx
  refine ⟨j, hj, ?_⟩
  rw [gt_eq hj]
  simpa using e
theorem rlOk_yes {r : Rl} (h : rlOk r = true) : ∀ j, j < 5 → gt (rlJ r) j ≠ mk [] := fun j hj e => by
  unfold rlOk at h
  rw [List.all_eq_true] at h
  have hj' : j < (rlJ r).length := hj
  have := h _ (gt_mem hj')
  rw [e] at this
  simp at this
set_option maxRecDepth 20000 in
theorem rules_ok (v : Value) (rs : List Rl) (w : World) (h : RlR w v rs) :
    Calls Tryz.prog 132 #[v] w fun e w' => e = .returned (.bool (rlsOk rs)) ∧ Below w.heap.size w w' := by
  obtain ⟨a, c, rfl, hl, hr⟩ := id h
  by_cases h8 : 8 < rs.length
  · have e : rlsOk rs = false := by unfold rlsOk; rw [decide_eq_false (by omega)]; rfl
    rw [e]
    clear e hr h
    generalize rs.length = n at *
    go_enter Tryz.func132, Tryz.ntmps132
    go_wp2_with fail
    go_ret
    exact ⟨rfl, Below.refl _ _⟩
  have HB : Hd (∀ k (h : k < rs.length), rlOk rs[k] = false → rlsOk rs = false) := ⟨fun k h e => by
    cases hL : rlsOk rs with
    | false => rfl
    | true =>
      unfold rlsOk at hL
      simp only [Bool.and_eq_true, List.all_eq_true] at hL
      have := hL.2 rs[k] (List.getElem_mem h)
      rw [e] at this
      cases this⟩
  have HG : Hd ((∀ k (h : k < rs.length), rlOk rs[k] = true) → rlsOk rs = true) := ⟨fun h => by
    unfold rlsOk
    rw [decide_eq_true (by omega), Bool.true_and, List.all_eq_true]
    intro r hr
    obtain ⟨k, hk, rfl⟩ := List.getElem_of_mem hr
    exact h k hk⟩
  have HR : Hd (RlR w (.slice a rs.length c) rs) := ⟨h⟩
  generalize rlsOk rs = R at *
  obtain ⟨n, hnl⟩ : ∃ n, n = rs.length := ⟨_, rfl⟩
  have HN : Hd (n = rs.length) := ⟨hnl⟩
  rw [← hnl]
  have n8 : n ≤ 8 := by omega
  clear hr h hl h8 hnl
  go_enter Tryz.func132, Tryz.ntmps132
  go_wp2_with fail
  go_loopw [4, 10] (fun i4 i wr => ∃ k : Nat, k ≤ n ∧ i = .int .i64 k ∧ Hd ((∀ j (h : j < rs.length), j < k → rlOk rs[j] = true) ∧ Below w.heap.size w wr)) (fun _ i _ => n - (intOf i).toNat)
  case atStart => exact ⟨0, Nat.zero_le _, rfl, ⟨fun _ _ h => absurd h (Nat.not_lt_zero _), Below.refl _ _⟩⟩
  case round =>
    obtain ⟨k, hk, rfl, hI⟩ := hrel
    by_cases hlt : k < n
    · have hkL : k < rs.length := by rw [← HN.out]; exact hlt
      obtain ⟨a', c', e', -, hrow⟩ := HR.out.carry hI.out.2
      injection e' with e1 e2 e3
      subst e1 e3
      obtain ⟨b, off, rfl, hb, hcs⟩ := hrow (by omega)
      obtain ⟨v0, v1, v2, v3, v4, ⟨x0, x1, x2, x3, x4⟩, hru⟩ := hcs k hkL
      have HBad : Hd (rlOk rs[k] = false → R = false) := ⟨HB.out k hkL⟩
      have HStep : Hd (rlOk rs[k] = true → ∀ j (h : j < rs.length), j < k + 1 → rlOk rs[j] = true) := ⟨fun h1 j hj hjk => by
        rcases Nat.lt_or_eq_of_le (Nat.le_of_lt_succ hjk) with h' | h'
        · exact hI.out.1 j hj h'
        · subst h'; exact h1⟩
      obtain ⟨⟨q0, p0, e0, -⟩, ⟨q1, p1, e1, -⟩, ⟨q2, p2, e2, -⟩, ⟨q3, p3, e3, -⟩, ⟨q4, p4, e4, -⟩⟩ := id hru
      have AL := alloc_below wr (.cells #[v0, v1, v2, v3, v4] 50)
      have RW := ruleWords_ok v0 v1 v2 v3 v4 rs[k] _ (hru.carry AL)
      have B1 : Hd (Below w.heap.size w (wr.alloc (.cells #[v0, v1, v2, v3, v4] 50))) := ⟨hI.out.2.trans (AL.mono hI.out.2.size)⟩
      have NB := Blk.new wr 50 #[v0, v1, v2, v3, v4]
      have HK : Hd (k < n) := ⟨hlt⟩
      clear hcs hrow hru AL hI
      generalize rs[k] = r at *
      clear hkL
      generalize hn0 : r.users.length = m0 at e0
      generalize hn1 : r.groups.length = m1 at e1
      generalize hn2 : r.verbs.length = m2 at e2
      generalize hn3 : r.resources.length = m3 at e3
      generalize hn4 : r.spaces.length = m4 at e4
      subst e0 e1 e2 e3 e4
      clear hn0 hn1 hn2 hn3 hn4
      have i1 : (k : Int) < (n : Int) := by omega
      go_upto_region 6 with fail
      generalize wr.alloc _ = w1 at *
      generalize wr.heap.size = g at *
      clear x0 x1 x2 x3 x4
      have d0 := NB.cellv 0 rfl
      have d1 := NB.cellv 1 rfl
      have d2 := NB.cellv 2 rfl
      have d3 := NB.cellv 3 rfl
      have d4 := NB.cellv 4 rfl
      simp at d0 d1 d2 d3 d4
      clear NB
      go_wp2_with fail
      go_at_call 92
      refine RW.mono ?_
      rintro e w2 ⟨a2, rfl, r2, b2⟩
      have B2 : Hd (Below w.heap.size w w2) := ⟨B1.out.trans (b2.mono B1.out.size)⟩
      clear RW b2 B1 d0 d1 d2 d3 d4
      cases hok : rlOk r with
      | false =>
        have CY := contains_yes a2 5 5 (rlJ r) (mk []) w2 r2 (by show 5 ≤ 5; omega) (by omega) (rlOk_no hok)
        have hR := HBad.out hok
        subst hR
        clear hok
        go_wp2_with (go_at_call 128; refine CY.mono ?_; rintro e w3 ⟨rfl, rfl⟩)
        go_ret
        exact ⟨rfl, B2.out⟩
      | true =>
        have CN := contains_no a2 5 5 (rlJ r) (mk []) w2 r2 (by show 5 ≤ 5; omega) (by omega) (rlOk_yes hok)
        have F3 : Hd ((∀ j (h : j < rs.length), j < k + 1 → rlOk rs[j] = true) ∧ Below w.heap.size w w2) := ⟨HStep.out hok, B2.out⟩
        clear hok
        go_wp2_with (go_at_call 128; refine CN.mono ?_; rintro e w3 ⟨rfl, hw⟩; obtain rfl := hw.symm)
        go_roundw
        case rel =>
          first
            | exact ⟨k + 1, HK.out, by go_num, F3⟩
            | ((repeat apply Exists.intro); exact ⟨⟨k + 1, HK.out, by go_num, F3⟩, rfl⟩)
        case measure => have := HK.out; simp [intOf]; omega
    · obtain rfl : k = n := by omega
      have hR := HG.out fun j h => hI.out.1 j h (by rw [HN.out]; exact h)
      subst hR
      go_wp2_with fail
      go_ret
      exact ⟨rfl, hI.out.2⟩

theorem byIs_word (n : Int) : (byW n).toList.isEmpty = !byIs n := by
  rw [ByteArray.toList_eq]
  unfold byW byIs
  by_cases h0 : n = 0
  · rw [if_pos h0, h0]; rfl
  rw [if_neg h0]
  by_cases h1 : n = 1
  · rw [if_pos h1, h1]; rfl
  rw [if_neg h1]
  by_cases h2 : n = 2
  · rw [if_pos h2, h2]; rfl
  rw [if_neg h2]
  simp [h0, h1, h2, mk]
set_option maxRecDepth 20000 in
theorem schema_ok (s : Sc) (v : Value) (w : World) (h : RlR w v s.rules) (h1 : s.name.size ≤ 9223372036854775807) (h2 : s.level.size ≤ 9223372036854775807) :
    Calls Tryz.prog 109 #[.agg #[.string s.name, .string s.level, .int .i64 s.rank, .int .i64 s.way, v]] w fun e w' => e = .returned (.bool (scOk s)) ∧ Below w.heap.size w w' := by
  have N1 := fun W => name_ok s.name h1 W
  have N2 := fun W => name_ok s.level h2 W
  have N3 := fun W => within_ok s.rank 1 10000 W
  have N4 := fun W => by_ok s.way W
  have hby := byIs_word s.way
  have AL := alloc_below w (.cells #[.string s.name, .string s.level, .int .i64 s.rank, .int .i64 s.way, v] 53)
  have NB := Blk.new w 53 #[.string s.name, .string s.level, .int .i64 s.rank, .int .i64 s.way, v]
  have RU := rules_ok v s.rules _ (h.carry AL)
  obtain ⟨a, c, rfl, -⟩ := h
  have e : scOk s = (isName s.name && (isName s.level && (inI s.rank 1 10000 && (byIs s.way && rlsOk s.rules)))) := rfl
  rw [e]
  clear e h1 h2
  generalize s.rules.length = n at *
  generalize isName s.name = p1 at *
  generalize isName s.level = p2 at *
  generalize inI s.rank 1 10000 = p3 at *
  generalize byIs s.way = p4 at *
  generalize rlsOk s.rules = p5 at *
  generalize byW s.way = y at *
  go_enter Tryz.func109, Tryz.ntmps109
  go_upto_region 1 with fail
  generalize w.alloc _ = w1 at *
  have d0 := NB.cellv 0 rfl
  have d1 := NB.cellv 1 rfl
  have d2 := NB.cellv 2 rfl
  have d3 := NB.cellv 3 rfl
  have d4 := NB.cellv 4 rfl
  simp at d0 d1 d2 d3 d4
  clear NB
  cases p1 with
  | false =>
    go_wp2_with (go_at_call 129; with_reducible refine (N1 _).mono ?_; rintro e w' ⟨rfl, rfl⟩)
    go_ret
    exact ⟨rfl, AL⟩
  | true =>
    go_wp2_with fail
    go_at_call 129
    refine (N1 _).mono ?_
    rintro e w2 ⟨rfl, hw⟩
    obtain rfl := hw.symm
    cases p2 with
    | false =>
      go_wp2_with fail
      go_at_call 129
      refine (N2 _).mono ?_
      rintro e w2 ⟨rfl, hw⟩
      obtain rfl := hw.symm
      go_wp2_with fail
      go_ret
      exact ⟨rfl, AL⟩
    | true =>
      go_wp2_with fail
      go_at_call 129
      refine (N2 _).mono ?_
      rintro e w2 ⟨rfl, hw⟩
      obtain rfl := hw.symm
      cases p3 with
      | false =>
        go_wp2_with (go_at_call 59; refine (N3 _).mono ?_; rintro e w' ⟨rfl, hw⟩; obtain rfl := hw.symm)
        go_ret
        exact ⟨rfl, AL⟩
      | true =>
        cases p4 with
        | false =>
          go_wp2_with (first | (go_at_call 59; refine (N3 _).mono ?_; rintro e w' ⟨rfl, hw⟩; obtain rfl := hw.symm) | (go_at_call 91; refine (N4 _).mono ?_; rintro e w' ⟨rfl, hw⟩; obtain rfl := hw.symm))
          go_ret
          exact ⟨rfl, AL⟩
        | true =>
          go_wp2_with (first | (go_at_call 59; refine (N3 _).mono ?_; rintro e w' ⟨rfl, hw⟩; obtain rfl := hw.symm) | (go_at_call 91; refine (N4 _).mono ?_; rintro e w' ⟨rfl, hw⟩; obtain rfl := hw.symm) | (go_at_call 132; refine RU.mono ?_; rintro e w' ⟨rfl, b2⟩))
          go_ret
          exact ⟨rfl, AL.trans (b2.mono AL.size)⟩
/-- The k-th has no other one of its name ahead. -/
def freshS (L : List Sc) (k : Nat) (h : k < L.length) : Bool := !((L.take k).any fun l => decide (l.name = L[k].name))
theorem freshS_iff {L : List Sc} {k : Nat} {h : k < L.length} : freshS L k h = true ↔ ∀ j (hj : j < k), L[j].name ≠ L[k].name := by
  unfold freshS
  rw [Bool.not_eq_true', List.any_eq_false]
  constructor
  · intro H j hj
    have := H L[j] (by rw [List.mem_take_iff_getElem]; exact ⟨j, by omega, rfl⟩)
    simpa using this
  · intro H l hl
    rw [List.mem_take_iff_getElem] at hl
    obtain ⟨j, hj, rfl⟩ := hl
    simpa using H j (by omega)
theorem schemas_bad {L : List Sc} {k : Nat} (h : k < L.length) (hb : freshS L k h = false ∨ scOk L[k] = false) : schemasOk L = false := by
  cases hL : schemasOk L with
  | false => rfl
  | true =>
    unfold schemasOk at hL
    simp only [Bool.and_eq_true, decide_eq_true_eq, List.all_eq_true] at hL
    rcases hb with hb | hb
    · have : freshS L k h = true := freshS_iff.2 fun j hj => List.pairwise_iff_getElem.1 hL.2.2 j k (by omega) h hj
      rw [hb] at this
      cases this
    · have := hL.2.1 L[k] (List.getElem_mem h)
      rw [hb] at this
      cases this
theorem schemas_good {L : List Sc} (h16 : L.length ≤ 32) (h : ∀ k (h : k < L.length), freshS L k h = true ∧ scOk L[k] = true) : schemasOk L = true := by
  unfold schemasOk
  simp only [Bool.and_eq_true, decide_eq_true_eq, List.all_eq_true]
  refine ⟨h16, fun l hl => ?_, List.pairwise_iff_getElem.2 fun i j hi hj hij => freshS_iff.1 (h j hj).1 i hij⟩
  obtain ⟨k, hk, rfl⟩ := List.getElem_of_mem hl
  exact (h k hk).2
theorem ScR.take {w : World} {b off : Nat} {L : List Sc} {V : List Value} (hc : ∀ k (h : k < L.length) (h' : k < V.length), ∀ j, j < 5 → w.cell? ⟨b, off + k * 5 + j, none⟩ = (scC L[k] V[k])[j]?) (hb : b < w.heap.size) (n : Nat) : ScR w (some ⟨b, off, none⟩) (L.take n) (V.take n) := fun _ =>
  ⟨b, off, rfl, hb, fun k hk hk' j hj => by rw [List.getElem_take, List.getElem_take]; exact hc k (by rw [List.length_take] at hk; omega) (by rw [List.length_take] at hk'; omega) j hj⟩

set_option maxRecDepth 20000 in
theorem schemas_ok (a : Option Addr) (c : Nat) (L : List Sc) (V : List Value) (w : World) (hr : ScR w a L V) (hV : V.length = L.length) (hRl : ∀ k (h : k < L.length) (h' : k < V.length), RlR w V[k] L[k].rules) (hc : L.length ≤ c) (hl : L.length ≤ 9223372036854775807) (hn : ∀ l ∈ L, l.name.size ≤ 9223372036854775807 ∧ l.level.size ≤ 9223372036854775807) :
    Calls Tryz.prog 62 #[.slice a L.length c] w fun e w' => e = .returned (.bool (schemasOk L)) ∧ Below w.heap.size w w' := by
  by_cases h16 : 32 < L.length
  · have e : schemasOk L = false := by unfold schemasOk; rw [decide_eq_false (by omega)]; rfl
    rw [e]
    clear e hr hn hc hRl hV
    generalize L.length = n at *
    go_enter Tryz.func62, Tryz.ntmps62
    go_wp2_with fail
    go_ret
    exact ⟨rfl, Below.refl _ _⟩
  have HL : Hd (L.length ≤ 32) := ⟨by omega⟩
  have HB : Hd (∀ k (h : k < L.length), (freshS L k h = false ∨ scOk L[k] = false) → schemasOk L = false) := ⟨fun k h => schemas_bad h⟩
  have HG : Hd ((∀ k (h : k < L.length), freshS L k h = true ∧ scOk L[k] = true) → schemasOk L = true) := ⟨schemas_good (by omega)⟩
  have HR : Hd (ScR w a L V ∧ (∀ l ∈ L, l.name.size ≤ 9223372036854775807 ∧ l.level.size ≤ 9223372036854775807) ∧ V.length = L.length ∧ ∀ k (h : k < L.length) (h' : k < V.length), RlR w V[k] L[k].rules) := ⟨hr, hn, hV, hRl⟩
  generalize schemasOk L = R at *
  obtain ⟨n, hnl⟩ : ∃ n, n = L.length := ⟨_, rfl⟩
  have HN : Hd (n = L.length) := ⟨hnl⟩
  rw [← hnl]
  rw [← hnl] at hc
  have n16 : n ≤ 32 := by omega
  clear hr hn hl h16 hnl hV hRl
  go_enter Tryz.func62, Tryz.ntmps62
  go_wp2_with fail
  go_loopw [3, 4, 5, 11] (fun i3 i4 i5 i wr => ∃ k : Nat, k ≤ n ∧ i = .int .i64 k ∧ Hd ((∀ j (h : j < L.length), j < k → freshS L j h = true ∧ scOk L[j] = true) ∧ Below w.heap.size w wr)) (fun _ _ _ i _ => n - (intOf i).toNat)
  case atStart => exact ⟨0, Nat.zero_le _, rfl, ⟨fun _ _ h => absurd h (Nat.not_lt_zero _), Below.refl _ _⟩⟩
  case round =>
    obtain ⟨k, hk, rfl, hI⟩ := hrel
    by_cases hlt : k < n
    · have hkL : k < L.length := by rw [← HN.out]; exact hlt
      obtain ⟨b, off, rfl, hb, hcs⟩ := (HR.out.1.carry hI.out.2) (by omega)
      have hkV : k < V.length := by rw [HR.out.2.2.1]; exact hkL
      have x0 : wr.cell? ⟨b, off + k * 5, none⟩ = some (.string L[k].name) := hcs k hkL hkV 0 (by decide)
      have x1 : wr.cell? ⟨b, off + k * 5 + 1, none⟩ = some (.string L[k].level) := hcs k hkL hkV 1 (by decide)
      have x2 : wr.cell? ⟨b, off + k * 5 + 2, none⟩ = some (.int .i64 L[k].rank) := hcs k hkL hkV 2 (by decide)
      have x3 : wr.cell? ⟨b, off + k * 5 + 3, none⟩ = some (.int .i64 L[k].way) := hcs k hkL hkV 3 (by decide)
      have x4 : wr.cell? ⟨b, off + k * 5 + 4, none⟩ = some V[k] := hcs k hkL hkV 4 (by decide)
      have HRl : Hd (RlR wr V[k] L[k].rules) := ⟨(HR.out.2.2.2 k hkL hkV).carry hI.out.2⟩
      obtain ⟨va, vc, eV, -⟩ := id HRl.out
      have AL := alloc_below wr (.cells #[.string L[k].name, .string L[k].level, .int .i64 L[k].rank, .int .i64 L[k].way, V[k]] 53)
      have NB := Blk.new wr 53 #[.string L[k].name, .string L[k].level, .int .i64 L[k].rank, .int .i64 L[k].way, V[k]]
      have PH := phasSc (some ⟨b, off, none⟩) c (L.take k) (V.take k) wr.heap.size L[k].name (wr.alloc (.cells #[.string L[k].name, .string L[k].level, .int .i64 L[k].rank, .int .i64 L[k].way, V[k]] 53)) (NB.cellv 0 rfl) ((ScR.take hcs hb k).carry AL) (by rw [List.length_take, List.length_take, HR.out.2.2.1]) (by rw [List.length_take]; omega)
      have LO : Hd (∀ W, Below wr.heap.size wr W → Calls Tryz.prog 109 #[.agg #[.string L[k].name, .string L[k].level, .int .i64 L[k].rank, .int .i64 L[k].way, V[k]]] W fun e w' => e = .returned (.bool (scOk L[k])) ∧ Below W.heap.size W w') := ⟨fun W hW => schema_ok L[k] V[k] W (HRl.out.carry hW) (HR.out.2.1 L[k] (List.getElem_mem hkL)).1 (HR.out.2.1 L[k] (List.getElem_mem hkL)).2⟩
      have hf : ((L.take k).any fun l => decide (l.name = L[k].name)) = !freshS L k hkL := by unfold freshS; rw [Bool.not_not]
      have hlen : (L.take k).length = k := by rw [List.length_take]; omega
      rw [hf, hlen] at PH
      have HBad : Hd ((freshS L k hkL = false ∨ scOk L[k] = false) → R = false) := ⟨HB.out k hkL⟩
      have HStep : Hd (freshS L k hkL = true → scOk L[k] = true → ∀ j (h : j < L.length), j < k + 1 → freshS L j h = true ∧ scOk L[j] = true) := ⟨fun h1 h2 j hj hjk => by
        rcases Nat.lt_or_eq_of_le (Nat.le_of_lt_succ hjk) with h' | h'
        · exact hI.out.1 j hj h'
        · subst h'; exact ⟨h1, h2⟩⟩
      have B1 : Hd (Below w.heap.size w (wr.alloc (.cells #[.string L[k].name, .string L[k].level, .int .i64 L[k].rank, .int .i64 L[k].way, V[k]] 53))) := ⟨hI.out.2.trans (AL.mono hI.out.2.size)⟩
      have HK : Hd (k < n) := ⟨hlt⟩
      have AL0 : Hd _ := ⟨AL⟩
      clear hcs hf hlen AL hI HRl
      generalize freshS L k hkL = fr at *
      generalize L[k] = l at *
      generalize V[k] = vv at *
      clear hkL hkV
      generalize l.rules.length = rn at *
      subst eV
      have i1 : (k : Int) < (n : Int) := by omega
      go_upto_region 6 with fail
      generalize wr.alloc _ = w1 at *
      clear x0 x1 x2 x3 x4
      go_wp2_with fail
      go_at_call 103
      refine PH.mono ?_
      rintro e w2 ⟨rfl, b2⟩
      have B2 : Hd (Below w.heap.size w w2) := ⟨B1.out.trans (b2.mono B1.out.size)⟩
      have N2 := NB.kept (Kept.of_below b2 (fun _ => False)) id
      have LO2 := LO.out w2 (AL0.out.trans (b2.mono AL0.out.size))
      clear PH NB b2 B1 LO AL0
      cases fr with
      | false =>
        have hR := HBad.out (.inl rfl)
        subst hR
        go_wp2_with fail
        go_ret
        exact ⟨rfl, B2.out⟩
      | true =>
        have d0 := N2.cellv 0 rfl
        have d1 := N2.cellv 1 rfl
        have d2 := N2.cellv 2 rfl
        have d3 := N2.cellv 3 rfl
        have d4 := N2.cellv 4 rfl
        simp at d0 d1 d2 d3 d4
        clear N2
        generalize scOk l = ok at *
        cases ok with
        | false =>
          have hR := HBad.out (.inr rfl)
          subst hR
          go_wp2_with (go_at_call 109; refine LO2.mono ?_; rintro e w3 ⟨rfl, b3⟩)
          go_ret
          exact ⟨rfl, B2.out.trans (b3.mono B2.out.size)⟩
        | true =>
          go_wp2_with (go_at_call 109; refine LO2.mono ?_; rintro e w3 ⟨rfl, b3⟩)
          have F3 : Hd ((∀ j (h : j < L.length), j < k + 1 → freshS L j h = true ∧ scOk L[j] = true) ∧ Below w.heap.size w w3) := ⟨HStep.out (by first | exact rfl | trivial) (by first | exact rfl | trivial), B2.out.trans (b3.mono B2.out.size)⟩
          go_roundw
          case rel =>
            first
              | exact ⟨k + 1, HK.out, by go_num, F3⟩
              | ((repeat apply Exists.intro); exact ⟨⟨k + 1, HK.out, by go_num, F3⟩, rfl⟩)
          case measure => have := HK.out; simp [intOf]; omega
    · obtain rfl : k = n := by omega
      have hR := HG.out fun j h => hI.out.1 j h (by rw [HN.out]; exact h)
      subst hR
      go_wp2_with fail
      go_ret
      exact ⟨rfl, hI.out.2⟩

set_option maxRecDepth 20000 in
theorem formed_ok (v : Value) (C : Cf) (w : World) (h : CfR w v C) : Calls Tryz.prog 28 #[v] w fun e w' => e = .returned (.bool (formed C)) ∧ Below w.heap.size w w' := by
  obtain ⟨aL, cL, aS, cS, V, rfl, hcL, hcS, hLv, hV, hSc, hRl⟩ := h.ex
  have sz := h.sz
  have nm := h.nm
  have W1 := fun W => within_ok C.total 0 4096 W
  have W2 := fun W => within_ok C.period 0 1000 W
  have W3 := fun W => seats_ok C.perSeat C.most W
  have AL := alloc_below w (.cells #[.int .i64 C.total, .int .i64 C.period, .int .i64 C.perSeat, .int .i64 C.most, .slice aL C.levels.length cL, .slice aS C.schemas.length cS] 25)
  have NB := Blk.new w 25 #[.int .i64 C.total, .int .i64 C.period, .int .i64 C.perSeat, .int .i64 C.most, .slice aL C.levels.length cL, .slice aS C.schemas.length cS]
  have LV := levels_ok aL cL C.levels _ (hLv.carry AL) hcL sz.1 nm.1
  have SC : Hd (∀ W, Below w.heap.size w W → Calls Tryz.prog 62 #[.slice aS C.schemas.length cS] W fun e w' => e = .returned (.bool (schemasOk C.schemas)) ∧ Below W.heap.size W w') := ⟨fun W hW => schemas_ok aS cS C.schemas V W (hSc.carry hW) hV (fun k h1 h2 => (hRl k h1 h2).carry hW) hcS sz.2 nm.2⟩
  have e : formed C = (inI C.total 0 4096 && (inI C.period 0 1000 && (seatsOk C.perSeat C.most && (levelsOk C.levels && schemasOk C.schemas)))) := rfl
  rw [e]
  clear e h sz nm hLv hV hSc hRl hcL hcS
  generalize inI C.total 0 4096 = p1 at *
  generalize inI C.period 0 1000 = p2 at *
  generalize seatsOk C.perSeat C.most = p3 at *
  generalize levelsOk C.levels = p4 at *
  generalize schemasOk C.schemas = p5 at *
  generalize C.levels.length = nL at *
  generalize C.schemas.length = nS at *
  have AL0 : Hd _ := ⟨AL⟩
  go_enter Tryz.func28, Tryz.ntmps28
  go_upto_region 1 with fail
  generalize w.alloc _ = w1 at *
  have d0 := NB.cellv 0 rfl
  have d1 := NB.cellv 1 rfl
  have d2 := NB.cellv 2 rfl
  have d3 := NB.cellv 3 rfl
  have d4 := NB.cellv 4 rfl
  simp at d0 d1 d2 d3 d4
  cases p1 with
  | false =>
    go_wp2_with (go_at_call 59; refine (W1 _).mono ?_; rintro e w' ⟨rfl, hw⟩; obtain rfl := hw.symm)
    go_ret
    exact ⟨rfl, AL⟩
  | true =>
    go_wp2_with fail
    go_at_call 59
    refine (W1 _).mono ?_
    rintro e w2 ⟨rfl, hw⟩
    obtain rfl := hw.symm
    cases p2 with
    | false =>
      go_wp2_with (go_at_call 59; refine (W2 _).mono ?_; rintro e w' ⟨rfl, hw⟩; obtain rfl := hw.symm)
      go_ret
      exact ⟨rfl, AL⟩
    | true =>
      go_wp2_with fail
      go_at_call 59
      refine (W2 _).mono ?_
      rintro e w2 ⟨rfl, hw⟩
      obtain rfl := hw.symm
      cases p3 with
      | false =>
        go_wp2_with (go_at_call 60; refine (W3 _).mono ?_; rintro e w' ⟨rfl, hw⟩; obtain rfl := hw.symm)
        go_ret
        exact ⟨rfl, AL⟩
      | true =>
        go_wp2_with fail
        go_at_call 60
        refine (W3 _).mono ?_
        rintro e w2 ⟨rfl, hw⟩
        obtain rfl := hw.symm
        go_wp2_with fail
        go_at_call 61
        refine LV.mono ?_
        rintro e w3 ⟨rfl, b3⟩
        have B3 : Hd (Below w.heap.size w w3) := ⟨AL0.out.trans (b3.mono AL0.out.size)⟩
        have N3 := NB.kept (Kept.of_below b3 (fun _ => False)) id
        have d5 := N3.cellv 5 rfl
        simp at d5
        have SC3 := SC.out w3 B3.out
        clear LV SC N3 NB b3 AL AL0 d0 d1 d2 d3 d4
        cases p4 with
        | false =>
          go_wp2_with fail
          go_ret
          exact ⟨rfl, B3.out⟩
        | true =>
          go_wp2_with (go_at_call 62; refine SC3.mono ?_; rintro e w4 ⟨rfl, b4⟩)
          go_ret
          exact ⟨rfl, B3.out.trans (b4.mono B3.out.size)⟩
end Go.Proofs.YtijjpblmnlednaaGreatDoor
