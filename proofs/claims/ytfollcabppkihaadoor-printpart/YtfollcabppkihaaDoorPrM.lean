/-
  The lines of a schema and of a rule, as 'schemaLine' and 'ruleLine' of 'print' answer them. Condition: they may be printed; the library's table of powers.
-/
import Derived.Test.YtfollcabppkihaaDoorPrL
namespace Go.Proofs.YtfollcabppkihaaDoor
open Go.RowKit Go.Lib

theorem joinB_size (L : List ByteArray) : (joinB L).size ≤ 1000 := by
  unfold joinB
  split
  · rw [mk_size]; decide
  split
  · rw [mk_size]; decide
  cases hg : good L with
  | false => rw [if_neg (by decide), mk_size]; decide
  | true =>
    rw [if_pos rfl, mk_size]
    have h := good_iff.1 hg
    have hw := good_words h
    have h8 := h.1
    cases L with
    | nil => exact Nat.zero_le _
    | cons x r =>
      rw [List.map_cons, join_cons, List.length_append]
      have h1 := word_short (hw x (List.mem_cons_self ..))
      rw [← size_list] at h1
      have h2 := tail_len 44 (r.map (·.data.toList)) (fun y hy => by
        obtain ⟨z, hz, rfl⟩ := List.mem_map.1 hy
        have := word_short (hw z (List.mem_cons_of_mem _ hz))
        rwa [← size_list] at this)
      rw [List.length_map] at h2
      rw [List.length_cons] at h8
      omega

theorem by_short (n : Int) : (byW n).size ≤ 1000 := by
  unfold byW
  split
  · decide
  · split
    · decide
    · split <;> decide
set_option maxRecDepth 20000 in
set_option maxHeartbeats 4000000 in
theorem schemaLine_ok (s : Sc) (a : Option Addr) (n c : Nat) (w : World) (h : scOk s = true) (hT : Tab w) :
    Calls Tryd.prog 16 #[.agg #[.string s.name, .string s.level, .int .i64 s.rank, .int .i64 s.way, .slice a n c]] w fun e w' => e = .returned (.string (lnB (scWs s))) ∧ Below w.heap.size w w' := by
  obtain ⟨h1, h2, ⟨h3, h4⟩, -⟩ := scOk_iff.1 h
  have n1 := name_short h1
  have n2 := name_short h2
  have hT0 : Hd (Tab w) := ⟨hT⟩
  have D0 : Hd (∀ W, Below w.heap.size w W → Calls Tryd.prog 28 #[.int .i64 s.rank] W fun e w' => e = .returned (.string (digB s.rank)) ∧ Below W.heap.size W w') := ⟨fun W hW => digits_ok s.rank (by omega) (by omega) W (hT0.out.stays hW)⟩
  have D1 : Hd (∀ W, Below w.heap.size w W → Calls Tryd.prog 30 #[.int .i64 s.way] W fun e w' => e = .returned (.string (byW s.way)) ∧ Below W.heap.size W w') := ⟨fun W _ => Calls.mono (by_ok s.way W) fun e w' h => ⟨h.1, by rw [h.2]; exact Below.refl _ _⟩⟩
  have LN : Hd (∀ W : World, Calls Tryd.prog 27 #[.slice (some ⟨W.heap.size, 0, none⟩) 5 5] (W.alloc (.cells #[.string tSchema, .string s.name, .string s.level, .string (digB s.rank), .string (byW s.way)] 9)) fun e w' => e = .returned (.string (lnB (scWs s))) ∧ Below (W.alloc (.cells #[.string tSchema, .string s.name, .string s.level, .string (digB s.rank), .string (byW s.way)] 9)).heap.size (W.alloc (.cells #[.string tSchema, .string s.name, .string s.level, .string (digB s.rank), .string (byW s.way)] 9)) w') := ⟨fun W => line_ok _ 5 (scWs s) _ (row_lit W (scWs s)) (Nat.le_refl _) (by unfold scWs; simp) (by unfold scWs; simp) (by
    have := line_bound (ws := scWs s) (fun x hx => by
      simp only [scWs, List.mem_cons, List.not_mem_nil, or_false] at hx
      rcases hx with rfl | rfl | rfl | rfl | rfl
      · decide
      · exact n1
      · exact n2
      · exact dig_short _ (by omega)
      · exact by_short _)
    have e : (scWs s).length = 5 := rfl
    rw [e] at this; omega)⟩
  generalize lnB (scWs s) = RR at *
  generalize digB s.rank = x0 at *
  generalize byW s.way = x1 at *
  unfold tSchema at LN
  have AL := alloc_below w (.cells #[.string s.name, .string s.level, .int .i64 s.rank, .int .i64 s.way, .slice a n c] 40)
  have NB := Blk.new w 40 #[.string s.name, .string s.level, .int .i64 s.rank, .int .i64 s.way, .slice a n c]
  clear h h1 h2 h3 h4 n1 n2 hT
  go_enter Tryd.func16, Tryd.ntmps16
  go_upto_region 1 with fail
  generalize w.alloc _ = w1 at *
  have DR : Below w1.heap.size w1 w1.drew := ⟨rfl, rfl, rfl, Nat.le_refl _, fun _ _ => rfl⟩
  have B0 : Below w.heap.size w w1.drew := AL.trans (DR.mono AL.size)
  have A0 := NB.kept (Kept.of_below DR (fun _ => False)) id
  refine AnyG.start (T := fun w' => Blk w' w.heap.size 40 #[.string s.name, .string s.level, .int .i64 s.rank, .int .i64 s.way, .slice a n c]) (U := fun _ => True) (j0 := 100) (by kernel_rfl) ?_
  clear DR AL NB
  generalize w1.drew = w0 at *
  refine AnyG.takeAt 0 3 (v := ?_) rfl rfl (by kernel_rfl) (by kernel_rfl) (by kernel_rfl) (by decide) (fun _ _ _ h => h) ⟨A0, fun _ => trivial⟩ (by rfl) ?_ ?_
  rotate_left
  · intro w hSw
    go_simp
    rfl
  simp only [List.setIfInBounds_toArray, List.set_cons_zero, List.set_cons_succ]
  refine AnyG.takeAt 1 4 (v := ?_) rfl rfl (by kernel_rfl) (by kernel_rfl) (by kernel_rfl) (by decide) (fun _ _ _ h => h) ⟨A0, fun _ => trivial⟩ (by rfl) ?_ ?_
  rotate_left
  · intro w hSw
    have s4 := hSw.cellv (v := .string s.name) 0 rfl
    go_simp
    rfl
  simp only [List.setIfInBounds_toArray, List.set_cons_zero, List.set_cons_succ]
  refine AnyG.takeAt 2 5 (v := ?_) rfl rfl (by kernel_rfl) (by kernel_rfl) (by kernel_rfl) (by decide) (fun _ _ _ h => h) ⟨A0, fun _ => trivial⟩ (by rfl) ?_ ?_
  rotate_left
  · intro w hSw
    go_simp
    rfl
  simp only [List.setIfInBounds_toArray, List.set_cons_zero, List.set_cons_succ]
  refine AnyG.takeAt 3 6 (v := ?_) rfl rfl (by kernel_rfl) (by kernel_rfl) (by kernel_rfl) (by decide) (fun _ _ _ h => h) ⟨A0, fun _ => trivial⟩ (by rfl) ?_ ?_
  rotate_left
  · intro w hSw
    have s4 := hSw.cellv (v := .string s.level) 1 rfl
    go_simp
    rfl
  simp only [List.setIfInBounds_toArray, List.set_cons_zero, List.set_cons_succ]
  refine AnyG.takeAt 4 7 (v := ?_) rfl rfl (by kernel_rfl) (by kernel_rfl) (by kernel_rfl) (by decide) (fun _ _ _ h => h) ⟨A0, fun _ => trivial⟩ (by rfl) ?_ ?_
  rotate_left
  · intro w hSw
    go_simp
    rfl
  simp only [List.setIfInBounds_toArray, List.set_cons_zero, List.set_cons_succ]
  refine AnyG.takeAt 5 8 (v := ?_) rfl rfl (by kernel_rfl) (by kernel_rfl) (by kernel_rfl) (by decide) (fun _ _ _ h => h) ⟨A0, fun _ => trivial⟩ (by rfl) ?_ ?_
  rotate_left
  · intro w hSw
    have s4 := hSw.cellv (v := .int .i64 s.rank) 2 rfl
    go_simp
    rfl
  simp only [List.setIfInBounds_toArray, List.set_cons_zero, List.set_cons_succ]
  refine AnyG.takeAt 7 10 (v := ?_) rfl rfl (by kernel_rfl) (by kernel_rfl) (by kernel_rfl) (by decide) (fun _ _ _ h => h) ⟨A0, fun _ => trivial⟩ (by rfl) ?_ ?_
  rotate_left
  · intro w hSw
    go_simp
    rfl
  simp only [List.setIfInBounds_toArray, List.set_cons_zero, List.set_cons_succ]
  refine AnyG.takeAt 8 11 (v := ?_) rfl rfl (by kernel_rfl) (by kernel_rfl) (by kernel_rfl) (by decide) (fun _ _ _ h => h) ⟨A0, fun _ => trivial⟩ (by rfl) ?_ ?_
  rotate_left
  · intro w hSw
    have s4 := hSw.cellv (v := .int .i64 s.way) 3 rfl
    go_simp
    rfl
  simp only [List.setIfInBounds_toArray, List.set_cons_zero, List.set_cons_succ]
  refine AnyG.ready (rs := [6]) (by kernel_rfl) (by simp) ?_
  refine AllG.cons rfl (fun K hK => ?_) AllG.nil
  go_simp
  refine (D0.out w0 B0).mono ?_
  rintro e wk1 ⟨rfl, b1⟩
  have Ak1 := A0.kept (Kept.of_below b1 (fun _ => False)) id
  have Bk1 : Below w.heap.size w wk1 := B0.trans (b1.mono B0.size)
  refine hK.out _ _ ⟨Ak1, fun _ => trivial⟩ ?_
  clear hK K b1 A0 B0
  refine AnyG.ready (rs := [9]) (by kernel_rfl) (by simp) ?_
  refine AllG.cons rfl (fun K hK => ?_) AllG.nil
  go_simp
  refine (D1.out wk1 Bk1).mono ?_
  rintro e wk2 ⟨rfl, b2⟩
  have Ak2 := Ak1.kept (Kept.of_below b2 (fun _ => False)) id
  have Bk2 : Below w.heap.size w wk2 := Bk1.trans (b2.mono Bk1.size)
  refine hK.out _ _ ⟨Ak2, fun _ => trivial⟩ ?_
  clear hK K b2 Ak1 Bk1
  have LL := LN.out wk2
  refine AnyG.ready (rs := [10]) (by kernel_rfl) (by simp) ?_
  refine AllG.cons rfl (fun K hK => ?_) AllG.nil
  go_simp
  have AL3 := alloc_below wk2 (.cells #[.string ⟨#[115, 99, 104, 101, 109, 97]⟩, .string s.name, .string s.level, .string x0, .string x1] 9)
  have Ak3 := Ak2.kept (Kept.of_below AL3 (fun _ => False)) id
  have Bk3 : Below w.heap.size w (wk2.alloc (.cells #[.string ⟨#[115, 99, 104, 101, 109, 97]⟩, .string s.name, .string s.level, .string x0, .string x1] 9)) := Bk2.trans (AL3.mono Bk2.size)
  refine hK.out _ _ ⟨Ak3, fun _ => trivial⟩ ?_
  clear hK K AL3 Ak2 Bk2
  generalize wk2.alloc (.cells #[.string ⟨#[115, 99, 104, 101, 109, 97]⟩, .string s.name, .string s.level, .string x0, .string x1] 9) = wk3 at *
  generalize wk2.heap.size = gk3 at *
  refine AnyG.ready (rs := [11]) (by kernel_rfl) (by simp) ?_
  refine AllG.cons rfl (fun K hK => ?_) AllG.nil
  go_simp
  refine (LL).mono ?_
  rintro e wk4 ⟨rfl, b4⟩
  have Ak4 := Ak3.kept (Kept.of_below b4 (fun _ => False)) id
  have Bk4 : Below w.heap.size w wk4 := Bk3.trans (b4.mono Bk3.size)
  refine hK.out _ _ ⟨Ak4, fun _ => trivial⟩ ?_
  clear hK K b4 Ak3 Bk3
  refine AnyG.takeAt 12 2 (v := ?_) rfl rfl (by kernel_rfl) (by kernel_rfl) (by kernel_rfl) (by decide) (fun _ _ _ h => h) ⟨Ak4, fun _ => trivial⟩ (by rfl) ?_ ?_
  rotate_left
  · intro w hSw
    go_simp
    rfl
  simp only [List.setIfInBounds_toArray, List.set_cons_zero, List.set_cons_succ]
  refine AnyG.done (by kernel_rfl) ?_ _
  go_wp2_with fail
  go_ret
  exact ⟨rfl, Bk4⟩

theorem line_cons (x y : ByteArray) (r : List ByteArray) : lineL (x :: y :: r) = x.data.toList ++ 32 :: lineL (y :: r) := by
  unfold lineL
  simp only [List.map_cons]
  rw [join_cons, tail_cons, join_cons]
theorem rule_line (r : Rl) : (⟨#[114, 117, 108, 101, 32]⟩ : ByteArray) ++ lnB (rlJ r) = lnB (rlWs r) := by
  apply list_inj
  rw [cat_list]
  unfold lnB
  rw [mk_list, mk_list]
  unfold rlWs rlJ
  rw [line_cons tRule]
  simp [tRule]
set_option maxRecDepth 20000 in
theorem ruleLine_ok (v0 v1 v2 v3 v4 : Value) (r : Rl) (w : World) (h : RuR w v0 v1 v2 v3 v4 r) :
    Calls Tryd.prog 17 #[.agg #[v0, v1, v2, v3, v4]] w fun e w' => e = .returned (.string (lnB (rlWs r))) ∧ Below w.heap.size w w' := by
  have AL := alloc_below w (.cells #[v0, v1, v2, v3, v4] 43)
  have NB := Blk.new w 43 #[v0, v1, v2, v3, v4]
  have RW := ruleWords_ok v0 v1 v2 v3 v4 r _ (h.carry AL)
  obtain ⟨⟨a0, c0, rfl, -⟩, ⟨a1, c1, rfl, -⟩, ⟨a2, c2, rfl, -⟩, ⟨a3, c3, rfl, -⟩, ⟨a4, c4, rfl, -⟩⟩ := h
  have hb : (lineL (rlJ r)).length ≤ 1001 * 5 := line_bound (fun x hx => by
    simp only [rlJ, List.mem_cons, List.not_mem_nil, or_false] at hx
    rcases hx with rfl | rfl | rfl | rfl | rfl <;> exact joinB_size _)
  have hsz : (lnB (rlJ r)).size ≤ 6000 := by unfold lnB; rw [mk_size, List.length_append]; simp; omega
  have LN : Hd (∀ a W, RowL W a (rlJ r) → Calls Tryd.prog 27 #[.slice a 5 5] W fun e w' => e = .returned (.string (lnB (rlJ r))) ∧ Below W.heap.size W w') := ⟨fun a W hr => line_ok a 5 (rlJ r) W hr (Nat.le_refl _) (by show 5 ≤ _; omega) (by unfold rlJ; simp) (by omega)⟩
  have HE : Hd ((⟨#[114, 117, 108, 101, 32]⟩ : ByteArray) ++ lnB (rlJ r) = lnB (rlWs r)) := ⟨rule_line r⟩
  have five : (⟨#[114, 117, 108, 101, 32]⟩ : ByteArray).size = 5 := rfl
  generalize lnB (rlWs r) = RR at *
  generalize r.users.length = n0 at *
  generalize r.groups.length = n1 at *
  generalize r.verbs.length = n2 at *
  generalize r.resources.length = n3 at *
  generalize r.spaces.length = n4 at *
  clear hb
  go_enter Tryd.func17, Tryd.ntmps17
  go_upto_region 1 with fail
  generalize w.alloc _ = w1 at *
  have d0 := NB.cellv 0 rfl
  have d1 := NB.cellv 1 rfl
  have d2 := NB.cellv 2 rfl
  have d3 := NB.cellv 3 rfl
  have d4 := NB.cellv 4 rfl
  simp at d0 d1 d2 d3 d4
  go_wp2_with fail
  go_at_call 31
  refine RW.mono ?_
  rintro e w2 ⟨a2', rfl, r2, b2⟩
  have LN2 := LN.out a2' w2 r2
  have B2 : Hd (Below w.heap.size w w2) := ⟨AL.trans (b2.mono AL.size)⟩
  clear RW b2 AL NB d0 d1 d2 d3 d4 LN r2
  generalize lnB (rlJ r) = y at *
  go_wp2_with (go_at_call 27; refine LN2.mono ?_; rintro e w3 ⟨rfl, b3⟩)
  go_ret
  exact ⟨by rw [← HE.out]; rfl, B2.out.trans (b3.mono B2.out.size)⟩
end Go.Proofs.YtfollcabppkihaaDoor
