/-
  What is read may be printed, and its text is no longer: the mathematics.
-/
import Derived.Test.YtijjpblmnlednaaGreatDoorE11
namespace Go.Proofs.YtijjpblmnlednaaGreatDoor
open Go.Lib
theorem num_back {s : ByteArray} {lo hi : Int} (h : numIn s lo hi = true) : digB (numOf s lo hi) = s ∧ lo ≤ numOf s lo hi ∧ numOf s lo hi ≤ hi := by
  have e : numOf s lo hi = (valL s.data.toList : Int) := by unfold numOf; rw [if_pos h]
  unfold numIn at h
  simp only [Bool.and_eq_true, decide_eq_true_eq] at h
  obtain ⟨h1, h2, h3⟩ := h
  obtain ⟨p1, p2, p3, p4⟩ := isNum_parts h1
  rw [e]
  exact ⟨(num_iff s p1 p2).1 h1, h2, h3⟩
theorem one_of {ws : List ByteArray} (h : ((ws.length : Int) == 1) = true) : ∃ x, ws = [x] := by
  match ws, h with
  | [x], _ => exact ⟨x, rfl⟩
  | [], h => simp at h
  | _ :: _ :: _, h => simp at h; omega
theorem two_of {ws : List ByteArray} (h : ((ws.length : Int) == 2) = true) : ∃ x y, ws = [x, y] := by
  match ws, h with
  | [x, y], _ => exact ⟨x, y, rfl⟩
  | [], h => simp at h
  | [_], h => simp at h
  | _ :: _ :: _ :: _, h => simp at h; omega
theorem len_of {ws : List ByteArray} {n : Nat} (h : ((ws.length : Int) == (n : Int)) = true) : ws.length = n := by
  have := eq_of_beq h
  omega
theorem e_zero {b : Bool} {x : Int} (hx : x ≠ 0) (h : ifE b x = 0) : b = true := (ifE_eq_zero hx).1 h
theorem bor_word {s : ByteArray} (h : borrowOk s = true) : borW (borrowOf s) = s ∧ (borrowOf s = -1 ∨ (0 ≤ borrowOf s ∧ borrowOf s ≤ 1000)) := by
  unfold borrowOk at h
  unfold borrowOf
  by_cases e : s = tAll
  · rw [if_pos e, e]
    exact ⟨rfl, .inl rfl⟩
  · rw [if_neg e] at h ⊢
    obtain ⟨a, b, c⟩ := num_back h
    refine ⟨?_, .inr ⟨b, c⟩⟩
    unfold borW
    rw [if_neg (by omega)]
    exact a
theorem by_word {s : ByteArray} (h : byOk s = true) : byW (byOf s) = s ∧ (byOf s = 0 ∨ byOf s = 1 ∨ byOf s = 2) := by
  unfold byOk at h
  simp only [Bool.or_eq_true, decide_eq_true_eq] at h
  rcases h with rfl | rfl | rfl <;> decide

/-- What a level's words tell, if they may be. -/
theorem level_words {ws : List ByteArray} (h : levelW ws = 0) : lvWs (levelOf ws) = tLevel :: ws ∧ lvOk (levelOf ws) = true ∧ (levelOf ws).name = gt ws 0 := by
  unfold levelW at h
  by_cases k0 : kindW ws = 0
  · rw [if_pos k0] at h; exact absurd h (by decide)
  rw [if_neg k0] at h
  by_cases k1 : kindW ws = 1
  · rw [if_pos k1] at h
    have hn := e_zero (by decide) h
    have e : levelOf ws = ⟨gt ws 0, 1, 0, 0, 0, 0, 0, 0, 0, 0⟩ := by unfold levelOf; rw [if_pos k1]
    obtain ⟨hl, hx⟩ : ws.length = 2 ∧ gt ws 1 = tExempt := by
      unfold kindW at k1
      split at k1
      · assumption
      · split at k1
        · exact absurd k1 (by decide)
        · split at k1 <;> exact absurd k1 (by decide)
    obtain ⟨x, y, rfl⟩ := two_of (by rw [hl]; rfl)
    obtain rfl : y = tExempt := hx
    rw [e]
    exact ⟨rfl, lvOk_iff.2 ⟨hn, .inl ⟨rfl, rfl, rfl⟩⟩, rfl⟩
  rw [if_neg k1] at h
  by_cases k2 : kindW ws = 2
  · rw [if_pos k2] at h
    unfold numsE at h
    simp only [mu_eq_zero] at h
    obtain ⟨⟨⟨h0, h1⟩, h2⟩, h3⟩ := h
    have e : levelOf ws = ⟨gt ws 0, 2, numOf (gt ws 1) 0 10000, numOf (gt ws 2) 0 100, borrowOf (gt ws 3), 0, 0, 0, 0, 0⟩ := by unfold levelOf; rw [if_neg k1, if_pos k2]
    obtain ⟨hl, hx⟩ : ws.length = 5 ∧ gt ws 4 = tReject := by
      unfold kindW at k2
      split at k2
      · exact absurd k2 (by decide)
      · split at k2
        · assumption
        · split at k2 <;> exact absurd k2 (by decide)
    match ws, hl with
    | [x0, x1, x2, x3, x4], _ =>
      obtain rfl : x4 = tReject := hx
      obtain ⟨a1, a2, a3⟩ := num_back (e_zero (by decide) h1)
      obtain ⟨b1, b2, b3⟩ := num_back (e_zero (by decide) h2)
      obtain ⟨c1, c2⟩ := bor_word (e_zero (by decide) h3)
      rw [e]
      refine ⟨?_, lvOk_iff.2 ⟨e_zero (by decide) h0, .inr (.inl ⟨rfl, sharesOk_iff.2 ⟨⟨a2, a3⟩, ⟨b2, b3⟩, c2⟩, rfl⟩)⟩, rfl⟩
      show [tLevel, gt [x0, x1, x2, x3, tReject] 0, digB (numOf (gt [x0, x1, x2, x3, tReject] 1) 0 10000), digB (numOf (gt [x0, x1, x2, x3, tReject] 2) 0 100), borW (borrowOf (gt [x0, x1, x2, x3, tReject] 3)), tReject] = _
      rw [a1, b1, c1]
      rfl
  · rw [if_neg k2] at h
    have k3 : kindW ws = 3 := by
      have : kindW ws = 0 ∨ kindW ws = 1 ∨ kindW ws = 2 ∨ kindW ws = 3 := by
        unfold kindW
        split
        · exact .inr (.inl rfl)
        · split
          · exact .inr (.inr (.inl rfl))
          · split
            · exact .inr (.inr (.inr rfl))
            · exact .inl rfl
      rcases this with e | e | e | e
      · exact absurd e k0
      · exact absurd e k1
      · exact absurd e k2
      · exact e
    unfold queueE numsE at h
    simp only [mu_eq_zero] at h
    obtain ⟨⟨⟨⟨⟨⟨⟨⟨h0, h1⟩, h2⟩, h3⟩, h5⟩, h6⟩, h7⟩, h8⟩, h9⟩ := h
    have e : levelOf ws = ⟨gt ws 0, 3, numOf (gt ws 1) 0 10000, numOf (gt ws 2) 0 100, borrowOf (gt ws 3), numOf (gt ws 5) 1 64, numOf (gt ws 6) 1 8, numOf (gt ws 7) 1 64, numOf (gt ws 8) 1 1000, numOf (gt ws 9) 1 1000⟩ := by unfold levelOf; rw [if_neg k1, if_neg k2]
    obtain ⟨hl, hx⟩ : ws.length = 10 ∧ gt ws 4 = tQueue := by
      unfold kindW at k3
      split at k3
      · exact absurd k3 (by decide)
      · split at k3
        · exact absurd k3 (by decide)
        · split at k3
          · assumption
          · exact absurd k3 (by decide)
    match ws, hl with
    | [x0, x1, x2, x3, x4, x5, x6, x7, x8, x9], _ =>
      obtain rfl : x4 = tQueue := hx
      obtain ⟨a1, a2, a3⟩ := num_back (e_zero (by decide) h1)
      obtain ⟨b1, b2, b3⟩ := num_back (e_zero (by decide) h2)
      obtain ⟨c1, c2⟩ := bor_word (e_zero (by decide) h3)
      obtain ⟨d1, d2, d3⟩ := num_back (e_zero (by decide) h5)
      obtain ⟨f1, f2, f3⟩ := num_back (e_zero (by decide) h6)
      obtain ⟨g1, g2, g3⟩ := num_back (e_zero (by decide) h7)
      obtain ⟨i1, i2, i3⟩ := num_back (e_zero (by decide) h8)
      obtain ⟨j1, j2, j3⟩ := num_back (e_zero (by decide) h9)
      rw [e]
      refine ⟨?_, lvOk_iff.2 ⟨e_zero (by decide) h0, .inr (.inr ⟨rfl, sharesOk_iff.2 ⟨⟨a2, a3⟩, ⟨b2, b3⟩, c2⟩, lanesOk_iff.2 ⟨⟨d2, d3⟩, ⟨f2, f3⟩, ⟨g2, g3⟩, ⟨i2, i3⟩, ⟨j2, j3⟩⟩⟩)⟩, rfl⟩
      simp only [gt, List.getD_cons_zero, List.getD_cons_succ] at a1 b1 c1 d1 f1 g1 i1 j1 ⊢
      unfold lvWs
      simp only [a1, b1, c1, d1, f1, g1, i1, j1]
      rfl
theorem schema_words {ws : List ByteArray} (h : schemaW ws = 0) : scWs (schemaOf ws) = tSchema :: ws ∧ scOk (schemaOf ws) = true ∧ (schemaOf ws).name = gt ws 0 := by
  unfold schemaW at h
  simp only [mu_eq_zero] at h
  obtain ⟨⟨⟨⟨h0, h1⟩, h2⟩, h3⟩, h4⟩ := h
  have hl := len_of (n := 4) (e_zero (by decide) h0)
  match ws, hl with
  | [x0, x1, x2, x3], _ =>
    obtain ⟨a1, a2, a3⟩ := num_back (e_zero (by decide) h3)
    obtain ⟨b1, b2⟩ := by_word (e_zero (by decide) h4)
    refine ⟨?_, scOk_iff.2 ⟨e_zero (by decide) h1, e_zero (by decide) h2, ⟨a2, a3⟩, b2, Nat.zero_le _, fun r hr => by cases hr⟩, rfl⟩
    unfold scWs schemaOf
    rw [a1, b1]
    rfl
theorem list_ne {s : ByteArray} (h : listOk s = true) : joinB (listOf s) ≠ mk [] := fun e => by
  rw [join_list s h] at e
  rw [e, no_list] at h
  cases h
theorem rule_words {C : Cf} {ws : List ByteArray} (h : ruleW C ws = 0) : rlWs (ruleOf ws) = tRule :: ws ∧ rlOk (ruleOf ws) = true ∧ C.schemas ≠ [] := by
  unfold ruleW at h
  simp only [mu_eq_zero] at h
  obtain ⟨⟨⟨⟨⟨h0, h1⟩, h2⟩, h3⟩, h4⟩, h5⟩ := h
  have hh := e_zero (by decide) h0
  rw [Bool.and_eq_true] at hh
  have hl := len_of (n := 5) hh.1
  have l1 := e_zero (by decide) h1
  have l2 := e_zero (by decide) h2
  have l3 := e_zero (by decide) h3
  have l4 := e_zero (by decide) h4
  have l5 := e_zero (by decide) h5
  match ws, hl with
  | [x0, x1, x2, x3, x4], _ =>
    refine ⟨?_, rlOk_iff.2 ⟨list_ne l1, list_ne l2, list_ne l3, list_ne l4, list_ne l5⟩, fun e => ?_⟩
    · unfold rlWs rlJ ruleOf
      dsimp only
      rw [join_list _ l1, join_list _ l2, join_list _ l3, join_list _ l4, join_list _ l5]
      rfl
    · have := hh.2
      rw [e] at this
      exact absurd this (by decide)

theorem pair_snoc {α : Type} {R : α → α → Prop} {L : List α} {x : α} (h : L.Pairwise R) (hx : ∀ y ∈ L, R y x) : (L ++ [x]).Pairwise R :=
  List.pairwise_append.2 ⟨h, List.pairwise_singleton _ _, fun a ha b hb => by rw [List.mem_singleton.1 hb]; exact hx a ha⟩
theorem has_none {C : Cf} {x : ByteArray} (h : hasLv C x = false) : ∀ l ∈ C.levels, l.name ≠ x := fun l hl e => by
  unfold hasLv at h
  rw [List.any_eq_false] at h
  exact absurd (by simpa using e) (h l hl)
theorem hasS_none {C : Cf} {x : ByteArray} (h : hasSc C x = false) : ∀ l ∈ C.schemas, l.name ≠ x := fun l hl e => by
  unfold hasSc at h
  rw [List.any_eq_false] at h
  exact absurd (by simpa using e) (h l hl)
theorem snoc_of {α : Type} {L : List α} (h : L ≠ []) : ∃ I x, L = I ++ [x] := ⟨L.dropLast, L.getLast h, (List.dropLast_concat_getLast h).symm⟩

/-- One more line that may be: its words stand among those that are printed, and all may be printed, still. -/
theorem tell_put {C : Cf} {s : ByteArray} {ws : List ByteArray} (h : tellE C s ws = 0) (hC : Formed C) : (∃ A B, cfWs C = A ++ B ∧ cfWs (tellC C s ws) = A ++ (s :: ws) :: B) ∧ Formed (tellC C s ws) := by
  unfold tellE at h
  unfold tellC
  by_cases t0 : s = tTotal
  · subst t0
    rw [if_pos rfl] at h ⊢
    unfold totalE at h
    simp only [mu_eq_zero] at h
    obtain ⟨⟨h1, h2⟩, h3⟩ := h
    obtain ⟨x, rfl⟩ := one_of (e_zero (by decide) h1)
    obtain ⟨a1, a2, a3⟩ := num_back (e_zero (by decide) h2)
    have z : C.total = 0 := by simpa using e_zero (by decide) h3
    have e0 : gt [x] 0 = x := rfl
    rw [e0] at a1 a2 a3 ⊢
    refine ⟨⟨[], cfWs C, rfl, ?_⟩, ⟨⟨by show (0 : Int) ≤ numOf x 1 4096; omega, a3⟩, hC.p, hC.s, hC.nl, hC.lv, hC.pl, hC.ns, hC.sc, hC.ps⟩⟩
    unfold cfWs numWs
    dsimp only
    rw [if_neg (by omega), a1, if_pos z]
    rfl
  rw [if_neg t0] at h ⊢
  by_cases t1 : s = tPeriod
  · subst t1
    rw [if_pos rfl] at h ⊢
    unfold periodE at h
    simp only [mu_eq_zero] at h
    obtain ⟨⟨h1, h2⟩, h3⟩ := h
    obtain ⟨x, rfl⟩ := one_of (e_zero (by decide) h1)
    obtain ⟨a1, a2, a3⟩ := num_back (e_zero (by decide) h2)
    have z : C.period = 0 := by simpa using e_zero (by decide) h3
    have e0 : gt [x] 0 = x := rfl
    rw [e0] at a1 a2 a3 ⊢
    refine ⟨⟨if C.total = 0 then [] else [[tTotal, digB C.total]], (if C.perSeat = 0 then [] else [[tSeats, digB C.perSeat, digB C.most]]) ++ (C.levels.map lvWs ++ C.schemas.flatMap scLs), ?_, ?_⟩, ⟨hC.t, ⟨by show (0 : Int) ≤ numOf x 1 1000; omega, a3⟩, hC.s, hC.nl, hC.lv, hC.pl, hC.ns, hC.sc, hC.ps⟩⟩
    · unfold cfWs numWs
      rw [if_pos z, List.nil_append, List.append_assoc]
    · unfold cfWs numWs
      dsimp only
      rw [if_neg (show ¬ numOf x 1 1000 = 0 by omega), a1]
      simp
  rw [if_neg t1] at h ⊢
  by_cases t2 : s = tSeats
  · subst t2
    rw [if_pos rfl] at h ⊢
    unfold seatsE at h
    simp only [mu_eq_zero] at h
    obtain ⟨⟨⟨h1, h2⟩, h4⟩, h3⟩ := h
    obtain ⟨x, y, rfl⟩ := two_of (e_zero (by decide) h1)
    obtain ⟨a1, a2, a3⟩ := num_back (e_zero (by decide) h2)
    obtain ⟨b1, b2, b3⟩ := num_back (e_zero (by decide) h4)
    have z : C.perSeat = 0 := by simpa using e_zero (by decide) h3
    have e0 : gt [x, y] 0 = x := rfl
    have e1 : gt [x, y] 1 = y := rfl
    rw [e0] at a1 a2 a3
    rw [e1] at b1 b2 b3
    rw [e0, e1]
    refine ⟨⟨(if C.total = 0 then [] else [[tTotal, digB C.total]]) ++ (if C.period = 0 then [] else [[tPeriod, digB C.period]]), C.levels.map lvWs ++ C.schemas.flatMap scLs, ?_, ?_⟩, ⟨hC.t, hC.p, .inr ⟨⟨a2, a3⟩, ⟨b2, b3⟩⟩, hC.nl, hC.lv, hC.pl, hC.ns, hC.sc, hC.ps⟩⟩
    · unfold cfWs numWs
      rw [if_pos z, List.append_nil]
    · unfold cfWs numWs
      dsimp only
      rw [if_neg (show ¬ numOf x 1 1048576 = 0 by omega), a1, b1]
      simp
  rw [if_neg t2] at h ⊢
  by_cases t3 : s = tLevel
  · subst t3
    rw [if_pos rfl] at h ⊢
    unfold levelE at h
    simp only [mu_eq_zero] at h
    obtain ⟨⟨h1, h2⟩, h3⟩ := h
    obtain ⟨a1, a2, a3⟩ := level_words h1
    have hno : hasLv C (gt ws 0) = false := by simpa using e_zero (by decide) h2
    have hlen : C.levels.length < 16 := by have := e_zero (by decide) h3; simp at this; omega
    refine ⟨⟨numWs C ++ C.levels.map lvWs, C.schemas.flatMap scLs, ?_, ?_⟩, ⟨hC.t, hC.p, hC.s, ?_, ?_, ?_, hC.ns, hC.sc, hC.ps⟩⟩
    · unfold cfWs; rw [List.append_assoc]
    · unfold cfWs
      show numWs C ++ ((C.levels ++ [levelOf ws]).map lvWs ++ C.schemas.flatMap scLs) = _
      rw [List.map_append, List.map_cons, a1]
      simp
    · show (C.levels ++ [levelOf ws]).length ≤ 16
      rw [List.length_append]; simp; omega
    · intro l hl
      rcases List.mem_append.1 hl with hl | hl
      · exact hC.lv l hl
      · rw [List.mem_singleton.1 hl]; exact a2
    · exact pair_snoc hC.pl (fun y hy => by rw [a3]; exact has_none hno y hy)
  rw [if_neg t3] at h ⊢
  by_cases t4 : s = tSchema
  · subst t4
    rw [if_pos rfl] at h ⊢
    unfold schemaE at h
    simp only [mu_eq_zero] at h
    obtain ⟨⟨h1, h2⟩, h3⟩ := h
    obtain ⟨a1, a2, a3⟩ := schema_words h1
    have hno : hasSc C (gt ws 0) = false := by simpa using e_zero (by decide) h2
    have hlen : C.schemas.length < 32 := by have := e_zero (by decide) h3; simp at this; omega
    refine ⟨⟨cfWs C, [], (List.append_nil _).symm, ?_⟩, ⟨hC.t, hC.p, hC.s, hC.nl, hC.lv, hC.pl, ?_, ?_, ?_⟩⟩
    · unfold cfWs
      show numWs C ++ (C.levels.map lvWs ++ (C.schemas ++ [schemaOf ws]).flatMap scLs) = _
      rw [List.flatMap_append, List.flatMap_cons, List.flatMap_nil, List.append_nil]
      have : scLs (schemaOf ws) = [tSchema :: ws] := by unfold scLs; rw [a1]; rfl
      rw [this]
      simp
    · show (C.schemas ++ [schemaOf ws]).length ≤ 32
      rw [List.length_append]; simp; omega
    · intro l hl
      rcases List.mem_append.1 hl with hl | hl
      · exact hC.sc l hl
      · rw [List.mem_singleton.1 hl]; exact a2
    · exact pair_snoc hC.ps (fun y hy => by rw [a3]; exact hasS_none hno y hy)
  rw [if_neg t4] at h ⊢
  by_cases t5 : s = tRule
  · subst t5
    rw [if_pos rfl] at h
    unfold ruleE at h
    simp only [mu_eq_zero] at h
    obtain ⟨h1, h3⟩ := h
    obtain ⟨a1, a2, a3⟩ := rule_words h1
    obtain ⟨I, x, hI⟩ := snoc_of a3
    have hlr : lastRules C = x.rules := by unfold lastRules; rw [hI, List.getLast?_concat]
    have hlen : x.rules.length < 8 := by have := e_zero (by decide) h3; rw [hlr] at this; simp at this; omega
    have hx := hC.sc x (by rw [hI]; simp)
    have hadd : addRule (ruleOf ws) C.schemas = I ++ [withRule (ruleOf ws) x] := by rw [hI, addRule_snoc]
    rw [hadd]
    refine ⟨⟨cfWs C, [], (List.append_nil _).symm, ?_⟩, ⟨hC.t, hC.p, hC.s, hC.nl, hC.lv, hC.pl, ?_, ?_, ?_⟩⟩
    · unfold cfWs
      show numWs C ++ (C.levels.map lvWs ++ (I ++ [withRule (ruleOf ws) x]).flatMap scLs) = _
      rw [hI, List.flatMap_append, List.flatMap_append, List.flatMap_cons, List.flatMap_nil, List.append_nil, List.flatMap_cons, List.flatMap_nil, List.append_nil]
      have : scLs (withRule (ruleOf ws) x) = scLs x ++ [tRule :: ws] := by
        show scWs x :: (x.rules ++ [ruleOf ws]).map rlWs = _
        rw [List.map_append, List.map_cons, a1]
        rfl
      rw [this]
      simp
    · have := hC.ns
      rw [hI] at this
      simpa using this
    · intro l hl
      rcases List.mem_append.1 hl with hl | hl
      · exact hC.sc l (by rw [hI]; exact List.mem_append_left _ hl)
      · rw [List.mem_singleton.1 hl]
        obtain ⟨p1, p2, p3, p4, p5, p6⟩ := scOk_iff.1 hx
        refine scOk_iff.2 ⟨p1, p2, p3, p4, ?_, ?_⟩
        · show (x.rules ++ [ruleOf ws]).length ≤ 8
          rw [List.length_append]; simp; omega
        · intro r hr
          rcases List.mem_append.1 hr with hr | hr
          · exact p6 r hr
          · rw [List.mem_singleton.1 hr]; exact a2
    · have := hC.ps
      rw [hI] at this
      exact List.pairwise_append.2 ⟨(List.pairwise_append.1 this).1, List.pairwise_singleton _ _, fun a ha b hb => by
        rw [List.mem_singleton.1 hb]
        exact (List.pairwise_append.1 this).2.2 a ha x (by simp)⟩
  · rw [if_neg t5] at h
    exact absurd h (by decide)

theorem formed0 : Formed cf0 := ⟨(by decide), (by decide), .inl ⟨rfl, rfl⟩, (by decide), fun _ h => (by cases h), List.Pairwise.nil, (by decide), fun _ h => (by cases h), List.Pairwise.nil⟩
theorem text0 : textL (cfWs cf0) = [] := rfl

/-! ### how long it is -/
theorem tail_sum (c : UInt8) : ∀ L : List (List UInt8), (joinTail [c] L).length = (L.map fun x => x.length + 1).sum
  | [] => rfl
  | x :: L => by rw [tail_cons, List.length_cons, List.length_append, tail_sum c L]; simp; omega
theorem join_sum (c : UInt8) {L : List (List UInt8)} (h : L ≠ []) : (join L [c]).length + 1 = (L.map fun x => x.length + 1).sum := by
  cases L with
  | nil => exact absurd rfl h
  | cons x r => rw [join_cons, List.length_append, tail_sum]; simp; omega
theorem filter_sum : ∀ L : List (List UInt8), ((L.filter neL).map fun x => x.length + 1).sum ≤ (L.map fun x => x.length + 1).sum
  | [] => Nat.le_refl _
  | x :: L => by
    have := filter_sum L
    rw [List.filter_cons]
    split <;> simp <;> omega
theorem line_len (s : ByteArray) : (lineL (wordsB s)).length ≤ s.size := by
  have e : (wordsB s).map (·.data.toList) = wordsL s.data.toList := by
    unfold wordsB
    rw [List.map_map]
    have : ((fun x : ByteArray => x.data.toList) ∘ mk) = id := by funext x; exact mk_list x
    rw [this, List.map_id]
  unfold lineL
  rw [e]
  by_cases h : wordsL s.data.toList = []
  · rw [h]; exact Nat.zero_le _
  · have h1 := join_sum 32 h
    have h2 := filter_sum (cutL 32 s.data.toList)
    have h3 := join_sum 32 (cutL_ne 32 s.data.toList)
    rw [join_cut, size_list] at h3
    unfold wordsL at h1 ⊢
    omega
/-- How long lines are, each with its newline. -/
def lnSum (L : List ByteArray) : Nat := (L.map fun x => x.size + 1).sum
theorem lines_sum (s : ByteArray) : lnSum (linesB s) ≤ s.size + 1 := by
  have h3 := join_sum 10 (cutL_ne 10 s.data.toList)
  rw [join_cut, size_list] at h3
  have e : lnSum (cutB 10 s) = s.size + 1 := by
    unfold lnSum cutB
    rw [List.map_map, h3]
    congr 1
  unfold linesB
  split
  · rw [← e]
    unfold lnSum
    have h : cutB 10 s ≠ [] := by unfold cutB; intro e; exact cutL_ne 10 _ (List.map_eq_nil_iff.1 e)
    obtain ⟨I, x, hI⟩ := snoc_of h
    rw [hI, List.dropLast_concat, List.map_append, List.sum_append]
    omega
  · rw [e]; exact Nat.le_refl _
theorem put_len {A B : List (List ByteArray)} {ws : List ByteArray} : (textL (A ++ ws :: B)).length = (textL (A ++ B)).length + (lineL ws).length + 1 := by
  rw [textL_append, textL_append, textL_cons]
  simp only [List.length_append, List.length_cons, List.length_nil]
  omega
theorem silent_cons {ws : List ByteArray} (h : silent ws = false) : ∃ s r, ws = s :: r := by
  cases ws with
  | nil => cases h
  | cons s r => exact ⟨s, r, rfl⟩
theorem go_formed : ∀ (L : List ByteArray) (C : Cf), Formed C → goE C L = 0 → Formed (goC C L) ∧ (textL (cfWs (goC C L))).length ≤ (textL (cfWs C)).length + lnSum L
  | [], C, hC, _ => ⟨hC, Nat.le_refl _⟩
  | l :: r, C, hC, h => by
    unfold goE at h
    unfold goC
    by_cases e : lineE C (wordsB l) = 0
    · rw [if_pos e] at h ⊢
      have hs : lnSum (l :: r) = l.size + 1 + lnSum r := by unfold lnSum; simp
      cases hsil : silent (wordsB l) with
      | true =>
        have ec : lineC C (wordsB l) = C := by unfold lineC; rw [hsil]; rfl
        rw [ec] at h ⊢
        obtain ⟨a, b⟩ := go_formed r C hC h
        exact ⟨a, by omega⟩
      | false =>
        have len := line_len l
        obtain ⟨s, t, hw⟩ := silent_cons hsil
        have e1 : lineE C (wordsB l) = tellE C s t := by unfold lineE; rw [hsil, hw]; rfl
        have e2 : lineC C (wordsB l) = tellC C s t := by unfold lineC; rw [hsil, hw]; rfl
        rw [e1] at e
        rw [e2] at h ⊢
        obtain ⟨⟨A, B, q1, q2⟩, q3⟩ := tell_put e hC
        obtain ⟨a, b⟩ := go_formed r _ q3 h
        refine ⟨a, ?_⟩
        rw [q2, put_len, ← q1, ← hw] at b
        omega
    · rw [if_neg e] at h; exact absurd h e
theorem par_formed {s : ByteArray} (h : parE s = 0) : Formed (parC s) ∧ (outB (parC s)).size ≤ s.size + 1 := by
  unfold parE at h
  unfold parC
  by_cases hl : 65536 < s.size
  · rw [if_pos hl] at h; exact absurd h (by decide)
  rw [if_neg hl] at h ⊢
  obtain ⟨a, b⟩ := go_formed _ _ formed0 h
  have := lines_sum s
  rw [text0] at b
  refine ⟨a, ?_⟩
  unfold outB textB
  rw [mk_size]
  simp at b
  omega
end Go.Proofs.YtijjpblmnlednaaGreatDoor
