/-
  What the functions of 'rules' that look at rules and schemas, and at what lacks, answer.
-/
import Derived.Test.YtijjpblmnlednaaGreatDoorE31
namespace Go.Proofs.YtijjpblmnlednaaGreatDoor
open Go.RowKit
set_option maxRecDepth 20000 in
theorem rlAll_ok (v0 v1 v2 v3 v4 : Value) (r : Rl) (w : World) (h : RuR w v0 v1 v2 v3 v4 r) :
    Calls Tryz.prog 133 #[.agg #[v0, v1, v2, v3, v4]] w fun e w' => e = .returned (.bool (rlAll r)) ∧ Below w.heap.size w w' := by
  have AL := alloc_below w (.cells #[v0, v1, v2, v3, v4] 50)
  have NB := Blk.new w 50 #[v0, v1, v2, v3, v4]
  obtain ⟨h0, h1, h2, h3, h4⟩ := h.carry AL
  have I0 := isAll_ok v0 r.users _ h0
  have I2 := isAll_ok v2 r.verbs _ h2
  have I3 := isAll_ok v3 r.resources _ h3
  have I4 := isAll_ok v4 r.spaces _ h4
  have c0 := NB.cellv (v := v0) 0 rfl
  have c2 := NB.cellv (v := v2) 2 rfl
  have c3 := NB.cellv (v := v3) 3 rfl
  have c4 := NB.cellv (v := v4) 4 rfl
  obtain ⟨a0, p0, rfl, -⟩ := h0
  obtain ⟨a1, p1, rfl, -⟩ := h1
  obtain ⟨a2, p2, rfl, -⟩ := h2
  obtain ⟨a3, p3, rfl, -⟩ := h3
  obtain ⟨a4, p4, rfl, -⟩ := h4
  have e : rlAll r = (isStar r.users && (isStar r.verbs && (isStar r.resources && isStar r.spaces))) := rfl
  rw [e]
  clear e h NB
  generalize isStar r.users = x0 at *
  generalize isStar r.verbs = x2 at *
  generalize isStar r.resources = x3 at *
  generalize isStar r.spaces = x4 at *
  generalize r.users.length = m0 at *
  generalize r.groups.length = m1 at *
  generalize r.verbs.length = m2 at *
  generalize r.resources.length = m3 at *
  generalize r.spaces.length = m4 at *
  go_enter Tryz.func133, Tryz.ntmps133
  go_upto_region 1 with fail
  generalize w.alloc _ = w1 at *
  cases x0 with
  | false =>
    go_wp2_with (go_at_call 134; refine I0.mono ?_; rintro e w' ⟨rfl, hw⟩; obtain rfl := hw.symm)
    go_ret
    exact ⟨rfl, AL⟩
  | true =>
    go_wp2_with fail
    go_at_call 134
    refine I0.mono ?_
    rintro e w' ⟨rfl, hw⟩
    obtain rfl := hw.symm
    cases x2 with
    | false =>
      go_wp2_with fail
      go_at_call 134
      refine I2.mono ?_
      rintro e w' ⟨rfl, hw⟩
      obtain rfl := hw.symm
      go_wp2_with fail
      go_ret
      exact ⟨rfl, AL⟩
    | true =>
      go_wp2_with fail
      go_at_call 134
      refine I2.mono ?_
      rintro e w' ⟨rfl, hw⟩
      obtain rfl := hw.symm
      cases x3 with
      | false =>
        go_wp2_with fail
        go_at_call 134
        refine I3.mono ?_
        rintro e w' ⟨rfl, hw⟩
        obtain rfl := hw.symm
        go_wp2_with fail
        go_ret
        exact ⟨rfl, AL⟩
      | true =>
        go_wp2_with fail
        go_at_call 134
        refine I3.mono ?_
        rintro e w' ⟨rfl, hw⟩
        obtain rfl := hw.symm
        go_wp2_with fail
        go_at_call 134
        refine I4.mono ?_
        rintro e w' ⟨rfl, hw⟩
        obtain rfl := hw.symm
        go_wp2_with fail
        go_ret
        exact ⟨rfl, AL⟩

set_option maxRecDepth 20000 in
theorem indexRl (rs : List Rl) (a : Option Addr) (c : Nat) (w : World) (h : RlR w (.slice a rs.length c) rs) :
    Calls Tryz.prog 96 #[.slice a rs.length c, .func (.func 133) #[] #[]] w fun e w' => (∃ q : Int, e = .returned (.int .i64 q) ∧ decide (0 ≤ q) = rs.any rlAll) ∧ Below w.heap.size w w' := by
  have eg : ∀ args w, (callFunc 133 args).run Tryz.prog w = .ok (.enter 133 args) w := enters_of Tryz.func133 (by kernel_rfl) rfl
  have HR : Hd (RlR w (.slice a rs.length c) rs) := ⟨h⟩
  obtain ⟨_, _, _, hl, -⟩ := h
  obtain ⟨n, hn⟩ : ∃ n, n = rs.length := ⟨_, rfl⟩
  have HN : Hd (n = rs.length) := ⟨hn⟩
  rw [← hn] at hl ⊢
  clear hn
  go_enter Tryz.func96, Tryz.ntmps96
  go_wp2_with fail
  go_loopw [8] (fun i wr => ∃ k : Nat, k ≤ n ∧ i = .int .i64 k ∧ Hd ((∀ j (h : j < rs.length), j < k → rlAll rs[j] = false) ∧ Below w.heap.size w wr)) (fun i _ => n - (intOf i).toNat)
  case atStart => exact ⟨0, Nat.zero_le _, rfl, ⟨fun _ _ h => absurd h (Nat.not_lt_zero _), Below.refl _ _⟩⟩
  case round =>
    obtain ⟨k, hk, rfl, hI⟩ := hrel
    by_cases hlt : k < n
    · have hkL : k < rs.length := by rw [← HN.out]; exact hlt
      obtain ⟨a', c', e', -, hrow⟩ := HR.out.carry hI.out.2
      injection e' with e1 e2 e3
      subst e1 e3
      obtain ⟨b, off, rfl, hb, hcs⟩ := hrow (by omega)
      obtain ⟨v0, v1, v2, v3, v4, ⟨x0, x1, x2, x3, x4⟩, hru⟩ := hcs k hkL
      have HYes : Hd (rlAll rs[k] = true → rs.any rlAll = true) := ⟨fun e => List.any_eq_true.2 ⟨rs[k], List.getElem_mem hkL, e⟩⟩
      have HStep : Hd (rlAll rs[k] = false → ∀ j (h : j < rs.length), j < k + 1 → rlAll rs[j] = false) := ⟨fun h1 j hj hjk => by
        rcases Nat.lt_or_eq_of_le (Nat.le_of_lt_succ hjk) with h' | h'
        · exact hI.out.1 j hj h'
        · subst h'; exact h1⟩
      have RW := rlAll_ok v0 v1 v2 v3 v4 rs[k] wr hru
      obtain ⟨⟨q0, p0, e0, -⟩, ⟨q1, p1, e1, -⟩, ⟨q2, p2, e2, -⟩, ⟨q3, p3, e3, -⟩, ⟨q4, p4, e4, -⟩⟩ := id hru
      have BB : Hd (Below w.heap.size w wr) := ⟨hI.out.2⟩
      have HK : Hd (k < n) := ⟨hlt⟩
      clear hcs hrow hru hI
      generalize rs[k] = r at *
      clear hkL
      generalize hn0 : r.users.length = m0 at e0
      generalize hn1 : r.groups.length = m1 at e1
      generalize hn2 : r.verbs.length = m2 at e2
      generalize hn3 : r.resources.length = m3 at e3
      generalize hn4 : r.spaces.length = m4 at e4
      subst e0 e1 e2 e3 e4
      clear hn0 hn1 hn2 hn3 hn4
      have i1 : (k : Int) < (n : Int) := by omega
      cases hok : rlAll r with
      | true =>
        rw [hok] at RW
        have A : Hd (rs.any rlAll = true) := ⟨HYes.out hok⟩
        clear hok HYes HStep
        go_wp2_with (go_at_fn 133; refine RW.mono ?_; rintro e w2 ⟨rfl, h2⟩)
        go_ret
        exact ⟨⟨k, rfl, by rw [A.out]; exact decide_eq_true (by omega)⟩, BB.out.trans (h2.mono BB.out.size)⟩
      | false =>
        rw [hok] at RW
        have F3 : Hd (∀ j (h : j < rs.length), j < k + 1 → rlAll rs[j] = false) := ⟨HStep.out hok⟩
        clear hok HYes HStep
        go_wp2_with (go_at_fn 133; refine RW.mono ?_; rintro e w2 ⟨rfl, h2⟩)
        go_roundw
        case rel =>
          first
            | exact ⟨k + 1, HK.out, by go_num, ⟨F3.out, BB.out.trans (h2.mono BB.out.size)⟩⟩
            | ((repeat apply Exists.intro); exact ⟨⟨k + 1, HK.out, by go_num, ⟨F3.out, BB.out.trans (h2.mono BB.out.size)⟩⟩, rfl⟩)
        case measure => have := HK.out; simp [intOf]; omega
    · obtain rfl : k = n := by omega
      have A : Hd (rs.any rlAll = false) := ⟨by
        rw [List.any_eq_false]
        intro l hl'
        obtain ⟨j, hj, rfl⟩ := List.getElem_of_mem hl'
        rw [hI.out.1 j hj (by rw [HN.out]; exact hj)]
        decide⟩
      go_wp2_with fail
      go_ret
      exact ⟨⟨-1, rfl, by rw [A.out]; decide⟩, hI.out.2⟩
theorem ruleOfAll_ok (v : Value) (rs : List Rl) (w : World) (h : RlR w v rs) : Calls Tryz.prog 111 #[v] w fun e w' => e = .returned (.bool (rs.any rlAll)) ∧ Below w.heap.size w w' := by
  obtain ⟨a, c, rfl, -⟩ := id h
  have I := indexRl rs a c w h
  clear h
  generalize rs.any rlAll = b at *
  generalize rs.length = n at *
  have J : Calls Tryz.prog 47 #[.slice a n c, .func (.func 133) #[] #[]] w fun e w' => e = .returned (.bool b) ∧ Below w.heap.size w w' := by
    go_enter Tryz.func47, Tryz.ntmps47
    go_wp2_with (go_at_call 96; refine I.mono ?_; rintro e w' ⟨⟨q, rfl, hq⟩, hb⟩)
    go_ret
    exact ⟨by rw [← hq]; rfl, hb⟩
  clear I
  go_enter Tryz.func111, Tryz.ntmps111
  go_wp2_with (go_at_call 47; refine J.mono ?_; rintro e w' ⟨rfl, hb⟩)
  go_ret
  exact ⟨rfl, hb⟩

set_option maxRecDepth 20000 in
theorem scFits_ok (s : Sc) (v : Value) (w : World) (h : RlR w v s.rules) :
    Calls Tryz.prog 66 #[.agg #[.string s.name, .string s.level, .int .i64 s.rank, .int .i64 s.way, v]] w fun e w' => e = .returned (.bool (scFit s)) ∧ Below w.heap.size w w' := by
  have AL := alloc_below w (.cells #[.string s.name, .string s.level, .int .i64 s.rank, .int .i64 s.way, v] 53)
  have NB := Blk.new w 53 #[.string s.name, .string s.level, .int .i64 s.rank, .int .i64 s.way, v]
  have RU := ruleOfAll_ok v s.rules _ (h.carry AL)
  obtain ⟨a, c, rfl, -⟩ := h
  have c0 := NB.cellv (v := .string s.name) 0 rfl
  have c1 := NB.cellv (v := .string s.level) 1 rfl
  have c2 := NB.cellv (v := .int .i64 s.rank) 2 rfl
  have c4 := NB.cellv (v := .slice a s.rules.length c) 4 rfl
  have HE : Hd (scFit s = if s.name = tExempt then decide (s.level = tExempt) && s.rank == 1 else if s.name = tCatch then decide (s.level = tCatch) && (s.rank == 10000 && s.rules.any rlAll) else true) := ⟨rfl⟩
  generalize scFit s = R at *
  clear NB
  generalize s.rules.any rlAll = x at *
  generalize s.rules.length = n at *
  go_enter Tryz.func66, Tryz.ntmps66
  go_upto_region 1 with fail
  generalize w.alloc _ = w1 at *
  by_cases h1 : s.name = tExempt
  · have q1 := lit_yes h1
    have HR : Hd (R = (decide (s.level = tExempt) && s.rank == 1)) := ⟨by rw [HE.out, if_pos h1]⟩
    clear HE h1 RU
    by_cases h3 : s.level = tExempt
    · have q3 := lit_yes h3
      have HS : Hd (R = (s.rank == 1)) := ⟨by rw [HR.out, decide_eq_true h3]; rfl⟩
      clear HR h3
      go_wp2_with fail
      go_ret
      exact ⟨by rw [HS.out]; rfl, AL⟩
    · have q3 := lit_no h3
      have HS : Hd (R = false) := ⟨by rw [HR.out, decide_eq_false h3]; rfl⟩
      clear HR h3
      go_wp2_with fail
      go_ret
      exact ⟨by rw [HS.out]; rfl, AL⟩
  · have q1 := lit_no h1
    by_cases h2 : s.name = tCatch
    · have q2 := lit_yes h2
      have HR : Hd (R = (decide (s.level = tCatch) && (s.rank == 10000 && x))) := ⟨by rw [HE.out, if_neg h1, if_pos h2]⟩
      clear HE h1 h2
      by_cases h3 : s.level = tCatch
      · have q3 := lit_yes h3
        cases h4 : (s.rank == 10000) with
        | true =>
          have HS : Hd (R = x) := ⟨by rw [HR.out, decide_eq_true h3, h4]; rfl⟩
          clear HR h3
          go_wp2_with (go_at_call 111; refine RU.mono ?_; rintro e w' ⟨rfl, b2⟩)
          go_ret
          exact ⟨by rw [HS.out]; rfl, AL.trans (b2.mono AL.size)⟩
        | false =>
          have HS : Hd (R = false) := ⟨by rw [HR.out, decide_eq_true h3, h4]; rfl⟩
          clear HR h3 RU
          go_wp2_with fail
          go_ret
          exact ⟨by rw [HS.out]; rfl, AL⟩
      · have q3 := lit_no h3
        have HS : Hd (R = false) := ⟨by rw [HR.out, decide_eq_false h3]; rfl⟩
        clear HR h3 RU
        go_wp2_with fail
        go_ret
        exact ⟨by rw [HS.out]; rfl, AL⟩
    · have q2 := lit_no h2
      have HR : Hd (R = true) := ⟨by rw [HE.out, if_neg h1, if_neg h2]⟩
      clear HE h1 h2 RU
      go_wp2_with fail
      go_ret
      exact ⟨by rw [HR.out]; rfl, AL⟩

set_option maxRecDepth 20000 in
theorem scErr_ok (s : Sc) (v : Value) (aL : Option Addr) (cL : Nat) (L : List Lv) (w : World) (h : RlR w v s.rules) (hL : LvR w aL L) (hl : L.length ≤ 65536) :
    Calls Tryz.prog 32 #[.agg #[.string s.name, .string s.level, .int .i64 s.rank, .int .i64 s.way, v], .slice aL L.length cL] w fun e w' => e = .returned (.int .i64 (scErr L s)) ∧ Below w.heap.size w w' := by
  have AL := alloc_below w (.cells #[.string s.name, .string s.level, .int .i64 s.rank, .int .i64 s.way, v] 53)
  have NB := Blk.new w 53 #[.string s.name, .string s.level, .int .i64 s.rank, .int .i64 s.way, v]
  have HL := rhasLv_ok aL cL L s.level _ (hL.carry AL) hl
  have SF : Hd (∀ W, Below w.heap.size w W → Calls Tryz.prog 66 #[.agg #[.string s.name, .string s.level, .int .i64 s.rank, .int .i64 s.way, v]] W fun e w' => e = .returned (.bool (scFit s)) ∧ Below W.heap.size W w') := ⟨fun W b => scFits_ok s v W (h.carry b)⟩
  obtain ⟨a, c, rfl, -⟩ := h
  have HE : Hd (scErr L s = if anyL L s.level then (if scFit s then 0 else 11) else 6) := ⟨rfl⟩
  generalize scErr L s = R at *
  clear hL hl
  generalize anyL L s.level = x at *
  generalize scFit s = y at *
  generalize s.rules.length = n at *
  generalize L.length = m at *
  have c1 := NB.cellv (v := .string s.level) 1 rfl
  go_enter Tryz.func32, Tryz.ntmps32
  go_upto_region 1 with fail
  generalize w.alloc _ = w1 at *
  go_wp2_with fail
  go_at_call 65
  refine HL.mono ?_
  rintro e w2 ⟨rfl, b2⟩
  have B2 : Below w.heap.size w w2 := AL.trans (b2.mono AL.size)
  have N2 := NB.kept (Kept.of_below b2 (fun _ => False)) id
  have F2 := SF.out w2 B2
  have d0 := N2.cellv (v := .string s.name) 0 rfl
  have d1 := N2.cellv (v := .string s.level) 1 rfl
  have d2 := N2.cellv (v := .int .i64 s.rank) 2 rfl
  have d3 := N2.cellv (v := .int .i64 s.way) 3 rfl
  have d4 := N2.cellv (v := .slice a n c) 4 rfl
  clear HL AL NB c1 b2 N2 SF
  cases x with
  | false =>
    go_wp2_with fail
    go_ret
    exact ⟨by rw [HE.out]; rfl, B2⟩
  | true =>
    cases y with
    | false =>
      go_wp2_with (go_at_call 66; refine F2.mono ?_; rintro e w' ⟨rfl, b3⟩)
      go_ret
      exact ⟨by rw [HE.out]; rfl, B2.trans (b3.mono B2.size)⟩
    | true =>
      go_wp2_with (go_at_call 66; refine F2.mono ?_; rintro e w' ⟨rfl, b3⟩)
      go_ret
      exact ⟨by rw [HE.out]; rfl, B2.trans (b3.mono B2.size)⟩
end Go.Proofs.YtijjpblmnlednaaGreatDoor
