/-
  What 'Print' of 'print' answers. Condition: the configuration lies in memory; the library's table of powers.
-/
import Derived.Test.YtfollcabppkihaaDoorPrM
namespace Go.Proofs.YtfollcabppkihaaDoor
open Go.RowKit Go.Lib

theorem join_flat : ∀ L : List (List UInt8), join L [] = L.flatten
  | [] => rfl
  | x :: r => by
    rw [join_cons]
    have : ∀ R : List (List UInt8), joinTail [] R = R.flatten := by
      intro R
      induction R with
      | nil => rfl
      | cons y t ih => unfold joinTail at ih ⊢; simp at ih ⊢
    rw [this]
    rfl
theorem flat_text : ∀ Ws : List (List ByteArray), ((Ws.map lnB).map (·.data.toList)).flatten = textL Ws
  | [] => rfl
  | x :: r => by
    rw [List.map_cons, List.map_cons, List.flatten_cons, flat_text r, textL_cons]
    unfold lnB
    rw [mk_list]
theorem join_out (C : Cf) : mk (join (((cfWs C).map lnB).map (·.data.toList)) []) = outB C := by
  rw [join_flat, flat_text]
  rfl
/-- What is printed, and the error. -/
def printE (C : Cf) : Int := if formed C then (if 65536 < (outB C).size then 3 else 0) else 2
def printS (C : Cf) : ByteArray := if printE C = 0 then outB C else ⟨#[]⟩
/-- All words of the lines are short. -/
theorem short_lv {l : Lv} (h : lvOk l = true) : (∀ x ∈ lvWs l, x.size ≤ 1000) ∧ (lvWs l).length ≤ 11 := by
  obtain ⟨hn, hk⟩ := lvOk_iff.1 h
  have ns := name_short hn
  rcases hk with ⟨k, _⟩ | ⟨k, sh, _⟩ | ⟨k, sh, ln⟩
  · have e : lvWs l = [tLevel, l.name, tExempt] := by unfold lvWs; rw [if_pos k]
    rw [e]
    refine ⟨fun x hx => ?_, by simp⟩
    simp only [List.mem_cons, List.not_mem_nil, or_false] at hx
    rcases hx with rfl | rfl | rfl <;> first | exact ns | decide
  · obtain ⟨⟨s1, s2⟩, ⟨s3, s4⟩, s5⟩ := sharesOk_iff.1 sh
    have e : lvWs l = [tLevel, l.name, digB l.shares, digB l.lend, borW l.borrow, tReject] := by unfold lvWs; rw [if_neg (by omega), if_pos k]
    rw [e]
    refine ⟨fun x hx => ?_, by simp⟩
    simp only [List.mem_cons, List.not_mem_nil, or_false] at hx
    rcases hx with rfl | rfl | rfl | rfl | rfl | rfl <;> first | exact ns | decide | exact dig_short _ (by omega) | exact bor_short _ (by rcases s5 with h | h <;> omega)
  · obtain ⟨⟨s1, s2⟩, ⟨s3, s4⟩, s5⟩ := sharesOk_iff.1 sh
    obtain ⟨⟨z1, z2⟩, ⟨z3, z4⟩, ⟨z5, z6⟩, ⟨z7, z8⟩, ⟨z9, z0⟩⟩ := lanesOk_iff.1 ln
    have e : lvWs l = [tLevel, l.name, digB l.shares, digB l.lend, borW l.borrow, tQueue, digB l.queues, digB l.hand, digB l.length, digB l.wait, digB l.guess] := by unfold lvWs; rw [if_neg (by omega), if_neg (by omega), if_pos k]
    rw [e]
    refine ⟨fun x hx => ?_, by simp⟩
    simp only [List.mem_cons, List.not_mem_nil, or_false] at hx
    rcases hx with rfl | rfl | rfl | rfl | rfl | rfl | rfl | rfl | rfl | rfl | rfl <;> first | exact ns | decide | exact dig_short _ (by omega) | exact bor_short _ (by rcases s5 with h | h <;> omega)
theorem short_sc {s : Sc} (h : scOk s = true) : ∀ ws ∈ scLs s, (∀ x ∈ ws, x.size ≤ 1000) ∧ ws.length ≤ 11 := by
  obtain ⟨h1, h2, ⟨h3, h4⟩, h5, h6, h7⟩ := scOk_iff.1 h
  intro ws hw
  rcases List.mem_cons.1 hw with rfl | hw
  · refine ⟨fun x hx => ?_, by unfold scWs; simp⟩
    simp only [scWs, List.mem_cons, List.not_mem_nil, or_false] at hx
    rcases hx with rfl | rfl | rfl | rfl | rfl
    · decide
    · exact name_short h1
    · exact name_short h2
    · exact dig_short _ (by omega)
    · exact by_short _
  · obtain ⟨r, _, rfl⟩ := List.mem_map.1 hw
    refine ⟨fun x hx => ?_, by unfold rlWs rlJ; simp⟩
    simp only [rlWs, rlJ, List.mem_cons, List.not_mem_nil, or_false] at hx
    rcases hx with rfl | rfl | rfl | rfl | rfl | rfl
    · decide
    · exact joinB_size _
    · exact joinB_size _
    · exact joinB_size _
    · exact joinB_size _
    · exact joinB_size _
theorem short_cf {C : Cf} (h : Formed C) : ∀ ws ∈ cfWs C, (∀ x ∈ ws, x.size ≤ 1000) ∧ ws.length ≤ 11 := by
  intro ws hw
  unfold cfWs numWs at hw
  rcases List.mem_append.1 hw with hw | hw
  · rcases List.mem_append.1 hw with hw | hw
    · split at hw
      · cases hw
      · obtain rfl := List.mem_singleton.1 hw
        refine ⟨fun x hx => ?_, by simp⟩
        simp only [List.mem_cons, List.not_mem_nil, or_false] at hx
        rcases hx with rfl | rfl
        · decide
        · exact dig_short _ (by have := h.t; omega)
    · rcases List.mem_append.1 hw with hw | hw
      · split at hw
        · cases hw
        · obtain rfl := List.mem_singleton.1 hw
          refine ⟨fun x hx => ?_, by simp⟩
          simp only [List.mem_cons, List.not_mem_nil, or_false] at hx
          rcases hx with rfl | rfl
          · decide
          · exact dig_short _ (by have := h.p; omega)
      · split at hw
        · cases hw
        · obtain rfl := List.mem_singleton.1 hw
          refine ⟨fun x hx => ?_, by simp⟩
          simp only [List.mem_cons, List.not_mem_nil, or_false] at hx
          rcases hx with rfl | rfl | rfl
          · decide
          · exact dig_short _ (by rcases h.s with h | h <;> omega)
          · exact dig_short _ (by rcases h.s with h | h <;> omega)
  · rcases List.mem_append.1 hw with hw | hw
    · obtain ⟨l, hl, rfl⟩ := List.mem_map.1 hw
      exact short_lv (h.lv l hl)
    · obtain ⟨s, hs, hw⟩ := List.mem_flatMap.1 hw
      exact short_sc (h.sc s hs) ws hw
theorem text_bound : ∀ Ws : List (List ByteArray), (∀ ws ∈ Ws, (∀ x ∈ ws, x.size ≤ 1000) ∧ ws.length ≤ 11) → (textL Ws).length ≤ 12000 * Ws.length
  | [], _ => Nat.le_refl _
  | x :: r, h => by
    have i1 := text_bound r fun y hy => h y (List.mem_cons_of_mem _ hy)
    have i2 := h x (List.mem_cons_self ..)
    have i3 := line_bound i2.1
    have i4 := i2.2
    rw [textL_cons, List.length_append, List.length_append, List.length_cons]
    simp only [List.length_cons, List.length_nil]
    omega
theorem flat_len : ∀ ss : List Sc, (∀ s ∈ ss, s.rules.length ≤ 8) → (ss.flatMap scLs).length ≤ 9 * ss.length
  | [], _ => Nat.le_refl _
  | s :: ss, h => by
    have i1 := flat_len ss fun y hy => h y (List.mem_cons_of_mem _ hy)
    have i2 := h s (List.mem_cons_self ..)
    rw [List.flatMap_cons, List.length_append, List.length_cons]
    have e : (scLs s).length = s.rules.length + 1 := by unfold scLs; simp
    omega
theorem num_len (C : Cf) : (numWs C).length ≤ 3 := by
  unfold numWs
  by_cases a : C.total = 0 <;> by_cases b : C.period = 0 <;> by_cases c : C.perSeat = 0 <;> simp [a, b, c]
theorem cf_len {C : Cf} (h : Formed C) : (cfWs C).length ≤ 400 := by
  unfold cfWs
  have h1 := num_len C
  have h2 := flat_len C.schemas fun s hs => (scOk_iff.1 (h.sc s hs)).2.2.2.2.1
  have h3 := h.nl
  have h4 := h.ns
  rw [List.length_append, List.length_append, List.length_map]
  omega
theorem out_bound {C : Cf} (h : Formed C) : (outB C).size ≤ 4800000 := by
  unfold outB textB
  rw [mk_size]
  have h1 := text_bound (cfWs C) (short_cf h)
  have h2 := cf_len h
  omega
end Go.Proofs.YtfollcabppkihaaDoor
