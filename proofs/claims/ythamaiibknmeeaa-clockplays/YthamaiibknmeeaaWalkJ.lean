/-
  What 'Push' of the program does to a heap that lies in memory, and to nil. Conditions: as each theorem says them.
-/
import Derived.Test.YthamaiibknmeeaaWalkI
namespace Go.Proofs.Ythamaiibknmeeaa
open Go.RowKit Go.Lib Go.Sort Go.Maps

/-- A region that draws its order, and only reads. -/
theorem region_still {id : Nat} {Q : Exit → Act → World → Prop} {a : Act} {w : World} {l : List Oper} (hB : Region.lexB .any l.toArray = true)
    (h : wpStill Try.prog l.toArray w.drew (fun a' => Q .normal a' w.drew) l a) : (Code.region id l.toArray true).wp Try.prog Q a w := wp_region_still_lit Try.mixed hB h

theorem Try.info61 : (Try.prog.info? 61).map (fun i => (i.zero, i.size, i.bytes)) = some (some (.agg #[.int .u64 0, .int .i64 0]), 2, 16) := by kernel_rfl

theorem HS.owns {w : World} {hb mb : Nat} {S : Nat → Prop} {sa : Option Addr} {n cap : Nat} {f : Nat → Int × Int} {c : Nat} {pos : Int → Option Nat} (h : HS w hb mb S sa n cap f c pos) : w.ownsRow 0 61 2 (.slice sa n cap) n (cellsOf f n) := by
  rcases h.items with ⟨rfl, rfl, rfl⟩ | ⟨g, rfl, _, hA, _⟩
  · exact World.ownsRow_nil _ _ _ _
  · exact hA.owns 0 (Nat.zero_le _)

/-- An item in a block of its own. -/
theorem item_new (w : World) (x : Int × Int) : ∀ j u, ([.int .u64 x.1, .int .i64 x.2] : List Value)[j]? = some u → (w.alloc (.cells #[.int .u64 x.1, .int .i64 x.2] 61)).cell? ((⟨w.heap.size, 0, none⟩ : Addr).add j) = some u :=
  World.news_of_block (cs := #[.int .u64 x.1, .int .i64 x.2]) (t := 61) (fr := (0, 0)) (heap_alloc_new w _)
theorem item_one (x : Int × Int) : ∀ u ∈ ([.int .u64 x.1, .int .i64 x.2] : List Value), u.oneCell' = true := by
  intro u hu
  simp at hu
  rcases hu with rfl | rfl <;> rfl
theorem cells_push (f : Nat → Int × Int) (n : Nat) (x : Int × Int) : cellsOf f n ++ [.int .u64 x.1, .int .i64 x.2] = cellsOf (upd f n x) (n + 1) := by
  apply cells_ext
  · simp [cellsOf_len]; omega
  · intro i hi
    by_cases c : i = n
    · subst c
      rw [upd_same, List.getElem?_append_right (by rw [cellsOf_len]; omega), List.getElem?_append_right (by rw [cellsOf_len]; omega), cellsOf_len]
      exact ⟨by simp, by rw [show i * 2 + 1 - i * 2 = 1 by omega]; rfl⟩
    · rw [upd_other c, List.getElem?_append_left (by rw [cellsOf_len]; omega), List.getElem?_append_left (by rw [cellsOf_len]; omega)]
      exact ⟨cellsOf_even f n i (by omega), cellsOf_odd f n i (by omega)⟩

theorem HS.appended {w w3 : World} {hb mb : Nat} {S : Nat → Prop} {sa : Option Addr} {n cap : Nat} {f : Nat → Int × Int} {c : Nat} {pos : Int → Option Nat} (h : HS w hb mb S sa n cap f c pos) (hS : S hb) {o : Obj} {g cap3 : Nat} {x : Int × Int}
    (hown : w3.ownsRow 0 61 2 (.slice (some ⟨g, 0, none⟩) (n + 1) cap3) (n + 1) (cellsOf f n ++ [.int .u64 x.1, .int .i64 x.2])) (hg : ((w.alloc o).drew).grownBy w3 (Value.slice sa n cap).ownBlock)
    (hat : (Value.slice sa n cap).ownBlock = some g ∨ g = w.heap.size + 1) :
    HM (w3.setCell ⟨hb, 0, none⟩ (.slice (some ⟨g, 0, none⟩) (n + 1) cap3)) hb mb g (n + 1) cap3 (upd f n x) c pos ∧ (S g ∨ w.heap.size ≤ g) ∧ Kept S w (w3.setCell ⟨hb, 0, none⟩ (.slice (some ⟨g, 0, none⟩) (n + 1) cap3)) := by
  have hob : ∀ k, (Value.slice sa n cap).ownBlock = some k → S k ∧ hb ≠ k ∧ k ≠ mb := by
    intro k hk
    rcases h.items with ⟨rfl, _⟩ | ⟨g, rfl, h1, _, h2, h3⟩
    · simp [Value.ownBlock] at hk
    · simp [Value.ownBlock] at hk
      subst hk
      exact ⟨h1, h2, h3⟩
  have hml := h.map.lt
  have hhl := h.hlt
  have hne1 : hb ≠ g := by
    rcases hat with e | e
    · exact (hob g e).2.1
    · omega
  have hne3 : g ≠ mb := by
    rcases hat with e | e
    · exact (hob g e).2.2
    · omega
  rw [cells_push] at hown
  have A := Arr.of_owns hown
  have k1 : Kept (fun k => (Value.slice sa n cap).ownBlock = some k) w w3 := ((Kept.refl _ w).alloc o).drew.trans (Kept.of_grown hg fun k e => e)
  have m1 : ¬ (Value.slice sa n cap).ownBlock = some mb := fun e => (hob mb e).2.2 rfl
  have m2 : ¬ (Value.slice sa n cap).ownBlock = some hb := fun e => (hob hb e).2.1 rfl
  have d0 := (k1.cell (o := 0) hhl m2).trans h.c0
  have d1 := (k1.cell (o := 1) hhl m2).trans h.c1
  have d2 := (k1.frozen (o := 0) hhl m2).trans h.f0
  have k2 : Kept (fun k => k = hb) w3 (w3.setCell ⟨hb, 0, none⟩ (.slice (some ⟨g, 0, none⟩) (n + 1) cap3)) := (Kept.refl (fun k => k = hb) w3).setCell ⟨hb, 0, none⟩ _ rfl
  refine ⟨⟨Nat.lt_of_lt_of_le hhl (Nat.le_trans k1.size k2.size), World.cell?_setCell_same _ _ _ d0, ?_, by simpa using d2, A.same (k2.block g A.lt hne1.symm), ?_, hne1, h.ne2, hne3⟩, ?_, ?_⟩
  · rw [World.cell?_setCell_other]
    · exact d1
    · simp
  · exact (h.map.same (k1.block mb hml m1)).same (k2.block mb (Nat.lt_of_lt_of_le hml k1.size) h.ne2.symm)
  · rcases hat with e | e
    · exact .inl (hob g e).1
    · exact .inr (by omega)
  · exact (k1.mono fun k _ e => (hob k e).1).trans (k2.mono fun k _ e => e ▸ hS)

theorem push_nil (x : Int × Int) (w : World) : Calls Try.prog 23 #[.pointer none, vI x] w fun e w' => e = .returned (.int .i64 6) ∧ Below w.heap.size w w' := by
  unfold vI
  go_enter Try.func23, Try.ntmps23
  go_wp2
  go_ret
  exact ⟨rfl, (Below.refl _ _).alloc (Nat.le_refl _) _⟩

section
variable {w : World} {hb : Nat} {S : Nat → Prop} {M : Int × Int → Prop} {n : Nat}

theorem push_twice (h : HeapIs w hb S M n) (x y : Int × Int) (hx : Wf x) (hy : M y) (e : y.2 = x.2) : Calls Try.prog 23 #[.pointer (some ⟨hb, 0, none⟩), vI x] w fun e w' => e = .returned (.int .i64 5) ∧ Below w.heap.size w w' := by
  obtain ⟨w1, hw1⟩ : ∃ w1, w1 = w.alloc (.cells #[.int .u64 x.1, .int .i64 x.2] 61) := ⟨_, rfl⟩
  have b1 : Below w.heap.size w w1 := hw1 ▸ (Below.refl _ _).alloc (Nat.le_refl _) _
  have h1 := h.below b1
  obtain ⟨_, _, _, _, mb, sa, cap, f, pos, _, h6, h7⟩ := h1
  obtain ⟨j, hj, rfl⟩ := (h7.mem y).1 hy
  have L := (h6.map.same (w' := w1.drew) rfl).look hx.2
  rw [(h7.at_ _ j).2 ⟨hj, e⟩] at L
  have c1 := h6.c1
  have bx1 : w1.cell? ⟨w.heap.size, 1, none⟩ = some (.int .i64 x.2) := by rw [hw1]; simp [go_sem]
  clear h h6 h7 hy e
  unfold vI
  go_enter Try.func23, Try.ntmps23
  go_wp2_with fail
  rw [← hw1]
  clear hw1
  refine region_still (by kernel_rfl) ?_
  repeat still_step
  refine wpStill_nil ?_
  go_wp2
  go_ret
  exact ⟨rfl, ⟨b1.os, b1.tape, b1.output, b1.size, b1.block⟩⟩

theorem push_full (h : HeapIs w hb S M 4096) (x : Int × Int) (hx : Wf x) (hno : ∀ y, M y → y.2 ≠ x.2) : Calls Try.prog 23 #[.pointer (some ⟨hb, 0, none⟩), vI x] w fun e w' => e = .returned (.int .i64 7) ∧ Below w.heap.size w w' := by
  obtain ⟨w1, hw1⟩ : ∃ w1, w1 = w.alloc (.cells #[.int .u64 x.1, .int .i64 x.2] 61) := ⟨_, rfl⟩
  have b1 : Below w.heap.size w w1 := hw1 ▸ (Below.refl _ _).alloc (Nat.le_refl _) _
  have h1 := h.below b1
  obtain ⟨_, _, _, _, mb, sa, cap, f, pos, _, h6, h7⟩ := h1
  have L := (h6.map.same (w' := w1.drew) rfl).look hx.2
  rw [(h7.none_iff _).2 hno] at L
  have c1 := h6.c1
  have c0 := h6.c0
  have bx1 : w1.cell? ⟨w.heap.size, 1, none⟩ = some (.int .i64 x.2) := by rw [hw1]; simp [go_sem]
  clear h h6 h7 hno
  unfold vI
  go_enter Try.func23, Try.ntmps23
  go_wp2_with fail
  rw [← hw1]
  clear hw1
  refine region_still (by kernel_rfl) ?_
  repeat still_step
  refine wpStill_nil ?_
  go_wp2
  go_ret
  exact ⟨rfl, ⟨b1.os, b1.tape, b1.output, b1.size, b1.block⟩⟩

set_option maxRecDepth 20000 in
set_option maxHeartbeats 2000000 in
theorem push_ok (h : HeapIs w hb S M n) (hn : n < 4096) (x : Int × Int) (hx : Wf x) (hno : ∀ y, M y → y.2 ≠ x.2) : Calls Try.prog 23 #[.pointer (some ⟨hb, 0, none⟩), vI x] w fun e w' => e = .returned (.int .i64 0) ∧
    ∃ S', HeapIs w' hb S' (fun y => y = x ∨ M y) (n + 1) ∧ Kept S w w' ∧ ∀ k, S' k → S k ∨ w.heap.size ≤ k := by
  obtain ⟨i0, hi, hz0, hz1, hz2⟩ := info_parts Try.info61
  obtain ⟨w1, hw1⟩ : ∃ w1, w1 = w.alloc (.cells #[.int .u64 x.1, .int .i64 x.2] 61) := ⟨_, rfl⟩
  have b1 : Below w.heap.size w w1 := hw1 ▸ (Below.refl _ _).alloc (Nat.le_refl _) _
  have h1 := h.below b1
  have hS := h.2.2.1
  obtain ⟨hwf, _, _, hSh, mb, sa, cap, f, pos, hSm, h6, h7⟩ := h1
  have hp := (h7.none_iff _).2 hno
  have L := (h6.map.same (w' := w1.drew) rfl).look hx.2
  rw [hp] at L
  have c1 := h6.c1
  have c0 := h6.c0
  have bx0 : w1.cell? ⟨w.heap.size, 0, none⟩ = some (.int .u64 x.1) := by rw [hw1]; simp [go_sem]
  have bx1 : w1.cell? ⟨w.heap.size, 1, none⟩ = some (.int .i64 x.2) := by rw [hw1]; simp [go_sem]
  have bl : w.heap.size < w1.heap.size := by rw [hw1]; simp
  obtain ⟨B, hB⟩ : ∃ B, B = w.heap.size := ⟨_, rfl⟩
  have nB : ∀ k, S k → k ≠ B := fun k hk e => by have := hS k hk; omega
  have hle : decide ((4096 : Int) ≤ (n : Int)) = false := decide_eq_false (by omega)
  have hle' : ¬ (4096 : Int) ≤ (n : Int) := by omega
  unfold vI
  go_enter Try.func23, Try.ntmps23
  go_wp2_with fail
  rw [← hw1]
  rw [← hB] at bx0 bx1 bl ⊢
  have hBw : w.heap.size ≤ B := by omega
  clear hw1 h hB
  refine region_still (by kernel_rfl) ?_
  repeat still_step
  refine wpStill_nil ?_
  go_wp2_with fail
  clear L
  obtain ⟨w2, hw2⟩ : ∃ w2, w2 = w1.drew := ⟨_, rfl⟩
  have H2 : HS w2 hb mb S sa n cap f n pos := hw2 ▸ h6.kept (Kept.refl (fun _ => False) w1).drew id id (fun _ _ => id)
  have k2 : Kept S w w2 := hw2 ▸ (Kept.of_below b1 S).drew
  have ax0 : w2.cell? ⟨B, 0, none⟩ = some (.int .u64 x.1) := hw2 ▸ bx0
  have ax1 : w2.cell? ⟨B, 1, none⟩ = some (.int .i64 x.2) := hw2 ▸ bx1
  have al : B < w2.heap.size := hw2 ▸ bl
  rw [← hw2]
  clear hw2 h6 bx0 bx1 bl c0 c1 b1
  have c0 := H2.c0
  have hhl := H2.hlt
  have f0 := H2.f0
  have OWN := H2.owns
  have OWN1 : ((w2.alloc (.cells #[.int .u64 x.1, .int .i64 x.2] 61)).drew).ownsRow 0 61 2 (.slice sa n cap) n (cellsOf f n) := OWN.alloc _
  have NEWS := item_new w2 x
  have ONE := item_one x
  have nob : (⟨hb, 0, none⟩ : Addr).block < ((w2.alloc (.cells #[.int .u64 x.1, .int .i64 x.2] 61)).drew).heap.size ∧ some (⟨hb, 0, none⟩ : Addr).block ≠ (Value.slice sa n cap).ownBlock := by
    refine ⟨Nat.lt_of_lt_of_le hhl (by show w2.heap.size ≤ (w2.alloc _).heap.size; simp), ?_⟩
    rcases H2.items with ⟨rfl, _⟩ | ⟨g, rfl, _, _, hne, _⟩
    · simp [Value.ownBlock]
    · simpa [Value.ownBlock] using hne
  have e0 : ((w2.alloc (.cells #[.int .u64 x.1, .int .i64 x.2] 61)).drew).cell? ⟨hb, 0, none⟩ = some (.slice sa n cap) := by simp [go_sem, hhl, c0]
  have e1 : ((w2.alloc (.cells #[.int .u64 x.1, .int .i64 x.2] 61)).drew).frozen? ⟨hb, 0, none⟩ = false := by simp [go_sem, hhl, f0]
  go_region_law (refine step_append_lies _ rfl (.tmp 30) (.tmp 32) 68 rfl 0 61 i0 (.agg #[.int .u64 0, .int .i64 0]) 2 16 Try.underlying68 hi hz0 hz1 hz2 rfl (by decide) (.slice sa n cap) n (cellsOf f n) (by simp [Act.eval]) OWN1 ⟨w2.heap.size, 0, none⟩ 1 1 [.int .u64 x.1, .int .i64 x.2] (by simp [Act.eval]) rfl NEWS ONE (by decide) (by unfold maxLen; omega) (by omega) (Nat.zero_le _) (w2.heap.size + 1) (by simp) ?_; intro g cap3 w3 hown3 hgrow3 hat3 hlt3; have d0 := (hgrow3.cell_far ⟨hb, 0, none⟩ nob.1 nob.2).trans e0; have d1 := (hgrow3.frozen_far ⟨hb, 0, none⟩ nob.1 nob.2).trans e1)
  all_goals
    obtain ⟨H4, hSg, k4⟩ := H2.appended hSh hown3 hgrow3 hat3
    generalize (w3.setCell ⟨hb, 0, none⟩ (.slice (some ⟨g, 0, none⟩) (n + 1) cap3)) = w4 at H4 k4 ⊢
    have nSB : ¬ S B := fun h => nB B h rfl
    have z0 := (k4.cell (o := 0) al nSB).trans ax0
    have z1 := (k4.cell (o := 1) al nSB).trans ax1
    have T := settle_any H4.drew n x M h7.pushed hx (fun y hy => ⟨hwf y hy, hno y hy⟩) (by omega) (by omega)
    rw [hp, cnt_none] at T
    have C0 := H4.c0
    have hcl := H4.arr.room
    clear d0 d1 hown3 hgrow3 hat3 hlt3 e0 e1 nob OWN OWN1 NEWS ONE c0 f0 hhl ax0 ax1 H2 hz0 hz1 hz2 hi
    go_wp2_with fail
    refine region_tail 8 (by kernel_rfl) ?_
    simp only [List.take_succ_cons, List.take_zero, List.drop_succ_cons, List.drop_zero]
    repeat still_step
    refine wpStill_nil ?_
    go_wp2_with (go_at_call 31; refine T.mono ?_; rintro e w5 ⟨rfl, f5, pos5, H5, O5, k5⟩)
    go_ret
    refine ⟨rfl, fun k => S k ∨ k = g, ⟨fun y hy => ?_, by omega, fun k hk => ?_, .inl hSh, mb, _, cap3, f5, pos5, .inl hSm, H5.hs (.inr rfl), O5⟩, ?_, fun k hk => ?_⟩
    · rcases hy with rfl | hy
      · exact hx
      · exact hwf y hy
    · rcases hk with hk | rfl
      · exact Nat.lt_of_lt_of_le (hS k hk) (Nat.le_trans k2.size (Nat.le_trans k4.size k5.size))
      · exact H5.arr.lt
    · refine (k2.trans k4).drew.then k5 fun j hj e => ?_
      rcases e with rfl | rfl
      · rcases hSg with h | h
        · exact h
        · have := k2.size; omega
      · exact hSm
    · rcases hk with hk | rfl
      · exact .inl hk
      · rcases hSg with h | h
        · exact .inl h
        · exact .inr (Nat.le_trans k2.size h)
end
end Go.Proofs.Ythamaiibknmeeaa
