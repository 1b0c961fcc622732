/-
  The lines of a schema and of a rule, as 'schemaLine' and 'ruleLine' of 'print' answer them.
  What 'Print' of 'print' answers.
-/
import Derived.Test.YtijjpblmnlednaaGreatDoorE37
import Derived.Test.YtijjpblmnlednaaGreatDoorE13
namespace Go.Proofs.YtijjpblmnlednaaGreatDoor
open Go.RowKit Go.Lib
theorem joinB_size (L : List ByteArray) : (joinB L).size ≤ 1000 := by
  unfold joinB
  split
  · rw [mk_size]; decide
  split
  · rw [mk_size]; decide
  cases hg : good L with
  | false => rw [if_neg (by decide), mk_size]; decide
  | true =>
    rw [if_pos rfl, mk_size]
    have h := good_iff.1 hg
    have hw := good_words h
    have h8 := h.1
    cases L with
    | nil => exact Nat.zero_le _
    | cons x r =>
      rw [List.map_cons, join_cons, List.length_append]
      have h1 := word_short (hw x (List.mem_cons_self ..))
      rw [← size_list] at h1
      have h2 := tail_len 44 (r.map (·.data.toList)) (fun y hy => by
        obtain ⟨z, hz, rfl⟩ := List.mem_map.1 hy
        have := word_short (hw z (List.mem_cons_of_mem _ hz))
        rwa [← size_list] at this)
      rw [List.length_map] at h2
      rw [List.length_cons] at h8
      omega

theorem by_short (n : Int) : (byW n).size ≤ 1000 := by
  unfold byW
  split
  · decide
  · split
    · decide
    · split <;> decide
set_option maxRecDepth 20000 in
set_option maxHeartbeats 4000000 in
theorem schemaLine_ok (s : Sc) (a : Option Addr) (n c : Nat) (w : World) (h : scOk s = true) (hT : Tab w) :
    Calls Tryz.prog 43 #[.agg #[.string s.name, .string s.level, .int .i64 s.rank, .int .i64 s.way, .slice a n c]] w fun e w' => e = .returned (.string (lnB (scWs s))) ∧ Below w.heap.size w w' := by
  obtain ⟨h1, h2, ⟨h3, h4⟩, -⟩ := scOk_iff.1 h
  have n1 := name_shortP h1
  have n2 := name_shortP h2
  have hT0 : Hd (Tab w) := ⟨hT⟩
  have D0 : Hd (∀ W, Below w.heap.size w W → Calls Tryz.prog 89 #[.int .i64 s.rank] W fun e w' => e = .returned (.string (digB s.rank)) ∧ Below W.heap.size W w') := ⟨fun W hW => digits_ok s.rank (by omega) (by omega) W (hT0.out.stays hW)⟩
  have D1 : Hd (∀ W, Below w.heap.size w W → Calls Tryz.prog 91 #[.int .i64 s.way] W fun e w' => e = .returned (.string (byW s.way)) ∧ Below W.heap.size W w') := ⟨fun W _ => Calls.mono (by_ok s.way W) fun e w' h => ⟨h.1, by rw [h.2]; exact Below.refl _ _⟩⟩
  have LN : Hd (∀ W : World, Calls Tryz.prog 88 #[.slice (some ⟨W.heap.size, 0, none⟩) 5 5] (W.alloc (.cells #[.string tSchema, .string s.name, .string s.level, .string (digB s.rank), .string (byW s.way)] 9)) fun e w' => e = .returned (.string (lnB (scWs s))) ∧ Below (W.alloc (.cells #[.string tSchema, .string s.name, .string s.level, .string (digB s.rank), .string (byW s.way)] 9)).heap.size (W.alloc (.cells #[.string tSchema, .string s.name, .string s.level, .string (digB s.rank), .string (byW s.way)] 9)) w') := ⟨fun W => line_ok _ 5 (scWs s) _ (row_lit W (scWs s)) (Nat.le_refl _) (by unfold scWs; simp) (by unfold scWs; simp) (by
    have := line_bound (ws := scWs s) (fun x hx => by
      simp only [scWs, List.mem_cons, List.not_mem_nil, or_false] at hx
      rcases hx with rfl | rfl | rfl | rfl | rfl
      · decide
      · exact n1
      · exact n2
      · exact dig_short _ (by omega)
      · exact by_short _)
    have e : (scWs s).length = 5 := rfl
    rw [e] at this; omega)⟩
  generalize lnB (scWs s) = RR at *
  generalize digB s.rank = x0 at *
  generalize byW s.way = x1 at *
  unfold tSchema at LN
  have AL := alloc_below w (.cells #[.string s.name, .string s.level, .int .i64 s.rank, .int .i64 s.way, .slice a n c] 53)
  have NB := Blk.new w 53 #[.string s.name, .string s.level, .int .i64 s.rank, .int .i64 s.way, .slice a n c]
  clear h h1 h2 h3 h4 n1 n2 hT
  go_enter Tryz.func43, Tryz.ntmps43
  go_upto_region 1 with fail
  generalize w.alloc _ = w1 at *
  have DR : Below w1.heap.size w1 w1.drew := ⟨rfl, rfl, rfl, Nat.le_refl _, fun _ _ => rfl⟩
  have B0 : Below w.heap.size w w1.drew := AL.trans (DR.mono AL.size)
  have A0 := NB.kept (Kept.of_below DR (fun _ => False)) id
  refine AnyG.start (T := fun w' => Blk w' w.heap.size 53 #[.string s.name, .string s.level, .int .i64 s.rank, .int .i64 s.way, .slice a n c]) (U := fun _ => True) (j0 := 100) (by kernel_rfl) ?_
  clear DR AL NB
  generalize w1.drew = w0 at *
  refine .tq 0 3 A0 ?_; simp only [tkA, tkB, tkC]
  refine .tq 1 4 A0 ?_ (hy := fun w hSw => by have s4 := hSw.cellv (v := .string s.name) 0 rfl; go_simp; rfl); simp only [tkA, tkB, tkC]
  refine .tq 2 5 A0 ?_; simp only [tkA, tkB, tkC]
  refine .tq 3 6 A0 ?_ (hy := fun w hSw => by have s4 := hSw.cellv (v := .string s.level) 1 rfl; go_simp; rfl); simp only [tkA, tkB, tkC]
  refine .tq 4 7 A0 ?_; simp only [tkA, tkB, tkC]
  refine .tq 5 8 A0 ?_ (hy := fun w hSw => by have s4 := hSw.cellv (v := .int .i64 s.rank) 2 rfl; go_simp; rfl); simp only [tkA, tkB, tkC]
  refine .tq 7 10 A0 ?_; simp only [tkA, tkB, tkC]
  refine .tq 8 11 A0 ?_ (hy := fun w hSw => by have s4 := hSw.cellv (v := .int .i64 s.way) 3 rfl; go_simp; rfl); simp only [tkA, tkB, tkC]
  refine AnyG.ready (rs := [6]) (by kernel_rfl) (by simp) ?_
  refine AllG.cons rfl (fun K hK => ?_) AllG.nil
  go_simp
  refine (D0.out w0 B0).mono ?_
  rintro e wk1 ⟨rfl, b1⟩
  have Ak1 := A0.kept (Kept.of_below b1 (fun _ => False)) id
  have Bk1 : Below w.heap.size w wk1 := B0.trans (b1.mono B0.size)
  refine hK.out _ _ ⟨Ak1, fun _ => trivial⟩ ?_
  clear hK K b1 A0 B0
  refine AnyG.ready (rs := [9]) (by kernel_rfl) (by simp) ?_
  refine AllG.cons rfl (fun K hK => ?_) AllG.nil
  go_simp
  refine (D1.out wk1 Bk1).mono ?_
  rintro e wk2 ⟨rfl, b2⟩
  have Ak2 := Ak1.kept (Kept.of_below b2 (fun _ => False)) id
  have Bk2 : Below w.heap.size w wk2 := Bk1.trans (b2.mono Bk1.size)
  refine hK.out _ _ ⟨Ak2, fun _ => trivial⟩ ?_
  clear hK K b2 Ak1 Bk1
  have LL := LN.out wk2
  refine AnyG.ready (rs := [10]) (by kernel_rfl) (by simp) ?_
  refine AllG.cons rfl (fun K hK => ?_) AllG.nil
  go_simp
  have AL3 := alloc_below wk2 (.cells #[.string ⟨#[115, 99, 104, 101, 109, 97]⟩, .string s.name, .string s.level, .string x0, .string x1] 9)
  have Ak3 := Ak2.kept (Kept.of_below AL3 (fun _ => False)) id
  have Bk3 : Below w.heap.size w (wk2.alloc (.cells #[.string ⟨#[115, 99, 104, 101, 109, 97]⟩, .string s.name, .string s.level, .string x0, .string x1] 9)) := Bk2.trans (AL3.mono Bk2.size)
  refine hK.out _ _ ⟨Ak3, fun _ => trivial⟩ ?_
  clear hK K AL3 Ak2 Bk2
  generalize wk2.alloc (.cells #[.string ⟨#[115, 99, 104, 101, 109, 97]⟩, .string s.name, .string s.level, .string x0, .string x1] 9) = wk3 at *
  generalize wk2.heap.size = gk3 at *
  refine AnyG.ready (rs := [11]) (by kernel_rfl) (by simp) ?_
  refine AllG.cons rfl (fun K hK => ?_) AllG.nil
  go_simp
  refine (LL).mono ?_
  rintro e wk4 ⟨rfl, b4⟩
  have Ak4 := Ak3.kept (Kept.of_below b4 (fun _ => False)) id
  have Bk4 : Below w.heap.size w wk4 := Bk3.trans (b4.mono Bk3.size)
  refine hK.out _ _ ⟨Ak4, fun _ => trivial⟩ ?_
  clear hK K b4 Ak3 Bk3
  refine .tq 12 2 Ak4 ?_; simp only [tkA, tkB, tkC]
  refine AnyG.done (by kernel_rfl) ?_ _
  go_wp2_with fail
  go_ret
  exact ⟨rfl, Bk4⟩

theorem line_cons (x y : ByteArray) (r : List ByteArray) : lineL (x :: y :: r) = x.data.toList ++ 32 :: lineL (y :: r) := by
  unfold lineL
  simp only [List.map_cons]
  rw [join_cons, tail_cons, join_cons]
theorem rule_line (r : Rl) : (⟨#[114, 117, 108, 101, 32]⟩ : ByteArray) ++ lnB (rlJ r) = lnB (rlWs r) := by
  apply list_inj
  rw [cat_list]
  unfold lnB
  rw [mk_list, mk_list]
  unfold rlWs rlJ
  rw [line_cons tRule]
  simp [tRule]
set_option maxRecDepth 20000 in
theorem ruleLine_ok (v0 v1 v2 v3 v4 : Value) (r : Rl) (w : World) (h : RuR w v0 v1 v2 v3 v4 r) :
    Calls Tryz.prog 44 #[.agg #[v0, v1, v2, v3, v4]] w fun e w' => e = .returned (.string (lnB (rlWs r))) ∧ Below w.heap.size w w' := by
  have AL := alloc_below w (.cells #[v0, v1, v2, v3, v4] 50)
  have NB := Blk.new w 50 #[v0, v1, v2, v3, v4]
  have RW := ruleWords_ok v0 v1 v2 v3 v4 r _ (h.carry AL)
  obtain ⟨⟨a0, c0, rfl, -⟩, ⟨a1, c1, rfl, -⟩, ⟨a2, c2, rfl, -⟩, ⟨a3, c3, rfl, -⟩, ⟨a4, c4, rfl, -⟩⟩ := h
  have hb : (lineL (rlJ r)).length ≤ 1001 * 5 := line_bound (fun x hx => by
    simp only [rlJ, List.mem_cons, List.not_mem_nil, or_false] at hx
    rcases hx with rfl | rfl | rfl | rfl | rfl <;> exact joinB_size _)
  have hsz : (lnB (rlJ r)).size ≤ 6000 := by unfold lnB; rw [mk_size, List.length_append]; simp; omega
  have LN : Hd (∀ a W, RowL W a (rlJ r) → Calls Tryz.prog 88 #[.slice a 5 5] W fun e w' => e = .returned (.string (lnB (rlJ r))) ∧ Below W.heap.size W w') := ⟨fun a W hr => line_ok a 5 (rlJ r) W hr (Nat.le_refl _) (by show 5 ≤ _; omega) (by unfold rlJ; simp) (by omega)⟩
  have HE : Hd ((⟨#[114, 117, 108, 101, 32]⟩ : ByteArray) ++ lnB (rlJ r) = lnB (rlWs r)) := ⟨rule_line r⟩
  have five : (⟨#[114, 117, 108, 101, 32]⟩ : ByteArray).size = 5 := rfl
  generalize lnB (rlWs r) = RR at *
  generalize r.users.length = n0 at *
  generalize r.groups.length = n1 at *
  generalize r.verbs.length = n2 at *
  generalize r.resources.length = n3 at *
  generalize r.spaces.length = n4 at *
  clear hb
  go_enter Tryz.func44, Tryz.ntmps44
  go_upto_region 1 with fail
  generalize w.alloc _ = w1 at *
  have d0 := NB.cellv 0 rfl
  have d1 := NB.cellv 1 rfl
  have d2 := NB.cellv 2 rfl
  have d3 := NB.cellv 3 rfl
  have d4 := NB.cellv 4 rfl
  simp at d0 d1 d2 d3 d4
  go_wp2_with fail
  go_at_call 92
  refine RW.mono ?_
  rintro e w2 ⟨a2', rfl, r2, b2⟩
  have LN2 := LN.out a2' w2 r2
  have B2 : Hd (Below w.heap.size w w2) := ⟨AL.trans (b2.mono AL.size)⟩
  clear RW b2 AL NB d0 d1 d2 d3 d4 LN r2
  generalize lnB (rlJ r) = y at *
  go_wp2_with (go_at_call 88; refine LN2.mono ?_; rintro e w3 ⟨rfl, b3⟩)
  go_ret
  exact ⟨by rw [← HE.out]; rfl, B2.out.trans (b3.mono B2.out.size)⟩
theorem join_flat : ∀ L : List (List UInt8), join L [] = L.flatten
  | [] => rfl
  | x :: r => by
    rw [join_cons]
    have : ∀ R : List (List UInt8), joinTail [] R = R.flatten := by
      intro R
      induction R with
      | nil => rfl
      | cons y t ih => unfold joinTail at ih ⊢; simp at ih ⊢
    rw [this]
    rfl
theorem flat_text : ∀ Ws : List (List ByteArray), ((Ws.map lnB).map (·.data.toList)).flatten = textL Ws
  | [] => rfl
  | x :: r => by
    rw [List.map_cons, List.map_cons, List.flatten_cons, flat_text r, textL_cons]
    unfold lnB
    rw [mk_list]
theorem join_out (C : Cf) : mk (join (((cfWs C).map lnB).map (·.data.toList)) []) = outB C := by
  rw [join_flat, flat_text]
  rfl
/-- What is printed, and the error. -/
def printE (C : Cf) : Int := if formed C then (if 65536 < (outB C).size then 3 else 0) else 2
def printS (C : Cf) : ByteArray := if printE C = 0 then outB C else ⟨#[]⟩
/-- All words of the lines are short. -/
theorem short_lv {l : Lv} (h : lvOk l = true) : (∀ x ∈ lvWs l, x.size ≤ 1000) ∧ (lvWs l).length ≤ 11 := by
  obtain ⟨hn, hk⟩ := lvOk_iff.1 h
  have ns := name_shortP hn
  rcases hk with ⟨k, _⟩ | ⟨k, sh, _⟩ | ⟨k, sh, ln⟩
  · have e : lvWs l = [tLevel, l.name, tExempt] := by unfold lvWs; rw [if_pos k]
    rw [e]
    refine ⟨fun x hx => ?_, by simp⟩
    simp only [List.mem_cons, List.not_mem_nil, or_false] at hx
    rcases hx with rfl | rfl | rfl <;> first | exact ns | decide
  · obtain ⟨⟨s1, s2⟩, ⟨s3, s4⟩, s5⟩ := sharesOk_iff.1 sh
    have e : lvWs l = [tLevel, l.name, digB l.shares, digB l.lend, borW l.borrow, tReject] := by unfold lvWs; rw [if_neg (by omega), if_pos k]
    rw [e]
    refine ⟨fun x hx => ?_, by simp⟩
    simp only [List.mem_cons, List.not_mem_nil, or_false] at hx
    rcases hx with rfl | rfl | rfl | rfl | rfl | rfl <;> first | exact ns | decide | exact dig_short _ (by omega) | exact bor_short _ (by rcases s5 with h | h <;> omega)
  · obtain ⟨⟨s1, s2⟩, ⟨s3, s4⟩, s5⟩ := sharesOk_iff.1 sh
    obtain ⟨⟨z1, z2⟩, ⟨z3, z4⟩, ⟨z5, z6⟩, ⟨z7, z8⟩, ⟨z9, z0⟩⟩ := lanesOk_iff.1 ln
    have e : lvWs l = [tLevel, l.name, digB l.shares, digB l.lend, borW l.borrow, tQueue, digB l.queues, digB l.hand, digB l.length, digB l.wait, digB l.guess] := by unfold lvWs; rw [if_neg (by omega), if_neg (by omega), if_pos k]
    rw [e]
    refine ⟨fun x hx => ?_, by simp⟩
    simp only [List.mem_cons, List.not_mem_nil, or_false] at hx
    rcases hx with rfl | rfl | rfl | rfl | rfl | rfl | rfl | rfl | rfl | rfl | rfl <;> first | exact ns | decide | exact dig_short _ (by omega) | exact bor_short _ (by rcases s5 with h | h <;> omega)
theorem short_sc {s : Sc} (h : scOk s = true) : ∀ ws ∈ scLs s, (∀ x ∈ ws, x.size ≤ 1000) ∧ ws.length ≤ 11 := by
  obtain ⟨h1, h2, ⟨h3, h4⟩, h5, h6, h7⟩ := scOk_iff.1 h
  intro ws hw
  rcases List.mem_cons.1 hw with rfl | hw
  · refine ⟨fun x hx => ?_, by unfold scWs; simp⟩
    simp only [scWs, List.mem_cons, List.not_mem_nil, or_false] at hx
    rcases hx with rfl | rfl | rfl | rfl | rfl
    · decide
    · exact name_shortP h1
    · exact name_shortP h2
    · exact dig_short _ (by omega)
    · exact by_short _
  · obtain ⟨r, _, rfl⟩ := List.mem_map.1 hw
    refine ⟨fun x hx => ?_, by unfold rlWs rlJ; simp⟩
    simp only [rlWs, rlJ, List.mem_cons, List.not_mem_nil, or_false] at hx
    rcases hx with rfl | rfl | rfl | rfl | rfl | rfl
    · decide
    · exact joinB_size _
    · exact joinB_size _
    · exact joinB_size _
    · exact joinB_size _
    · exact joinB_size _
theorem short_cf {C : Cf} (h : Formed C) : ∀ ws ∈ cfWs C, (∀ x ∈ ws, x.size ≤ 1000) ∧ ws.length ≤ 11 := by
  intro ws hw
  unfold cfWs numWs at hw
  rcases List.mem_append.1 hw with hw | hw
  · rcases List.mem_append.1 hw with hw | hw
    · split at hw
      · cases hw
      · obtain rfl := List.mem_singleton.1 hw
        refine ⟨fun x hx => ?_, by simp⟩
        simp only [List.mem_cons, List.not_mem_nil, or_false] at hx
        rcases hx with rfl | rfl
        · decide
        · exact dig_short _ (by have := h.t; omega)
    · rcases List.mem_append.1 hw with hw | hw
      · split at hw
        · cases hw
        · obtain rfl := List.mem_singleton.1 hw
          refine ⟨fun x hx => ?_, by simp⟩
          simp only [List.mem_cons, List.not_mem_nil, or_false] at hx
          rcases hx with rfl | rfl
          · decide
          · exact dig_short _ (by have := h.p; omega)
      · split at hw
        · cases hw
        · obtain rfl := List.mem_singleton.1 hw
          refine ⟨fun x hx => ?_, by simp⟩
          simp only [List.mem_cons, List.not_mem_nil, or_false] at hx
          rcases hx with rfl | rfl | rfl
          · decide
          · exact dig_short _ (by rcases h.s with h | h <;> omega)
          · exact dig_short _ (by rcases h.s with h | h <;> omega)
  · rcases List.mem_append.1 hw with hw | hw
    · obtain ⟨l, hl, rfl⟩ := List.mem_map.1 hw
      exact short_lv (h.lv l hl)
    · obtain ⟨s, hs, hw⟩ := List.mem_flatMap.1 hw
      exact short_sc (h.sc s hs) ws hw
theorem text_bound : ∀ Ws : List (List ByteArray), (∀ ws ∈ Ws, (∀ x ∈ ws, x.size ≤ 1000) ∧ ws.length ≤ 11) → (textL Ws).length ≤ 12000 * Ws.length
  | [], _ => Nat.le_refl _
  | x :: r, h => by
    have i1 := text_bound r fun y hy => h y (List.mem_cons_of_mem _ hy)
    have i2 := h x (List.mem_cons_self ..)
    have i3 := line_bound i2.1
    have i4 := i2.2
    rw [textL_cons, List.length_append, List.length_append, List.length_cons]
    simp only [List.length_cons, List.length_nil]
    omega
theorem flat_len : ∀ ss : List Sc, (∀ s ∈ ss, s.rules.length ≤ 8) → (ss.flatMap scLs).length ≤ 9 * ss.length
  | [], _ => Nat.le_refl _
  | s :: ss, h => by
    have i1 := flat_len ss fun y hy => h y (List.mem_cons_of_mem _ hy)
    have i2 := h s (List.mem_cons_self ..)
    rw [List.flatMap_cons, List.length_append, List.length_cons]
    have e : (scLs s).length = s.rules.length + 1 := by unfold scLs; simp
    omega
theorem num_len (C : Cf) : (numWs C).length ≤ 3 := by
  unfold numWs
  by_cases a : C.total = 0 <;> by_cases b : C.period = 0 <;> by_cases c : C.perSeat = 0 <;> simp [a, b, c]
theorem cf_len {C : Cf} (h : Formed C) : (cfWs C).length ≤ 400 := by
  unfold cfWs
  have h1 := num_len C
  have h2 := flat_len C.schemas fun s hs => (scOk_iff.1 (h.sc s hs)).2.2.2.2.1
  have h3 := h.nl
  have h4 := h.ns
  rw [List.length_append, List.length_append, List.length_map]
  omega
theorem out_bound {C : Cf} (h : Formed C) : (outB C).size ≤ 4800000 := by
  unfold outB textB
  rw [mk_size]
  have h1 := text_bound (cfWs C) (short_cf h)
  have h2 := cf_len h
  omega
end Go.Proofs.YtijjpblmnlednaaGreatDoor
