/-
  What the small tests of 'print' answer: within, seatsFormed, sharesFormed, lanesFormed, levelFormed, byWord.
-/
import Derived.Test.YtijjpblmnlednaaGreatDoorE6
import Derived.Test.YtijjpblmnlednaaGreatDoorE7
import Derived.Deep.SlicePairs
import Derived.Deep.Cut
import Derived.Deep.RegionHeld
import Derived.Deep.RegionLaw
import Derived.Shelf.Abstract
import Derived.Deep.AppendLies
import Derived.Laws.AppendOwnNone
namespace Go.Proofs.YtijjpblmnlednaaGreatDoor
open Go.RowKit
def lvA (l : Lv) : Array Value := #[.string l.name, .int .i64 l.kind, .int .i64 l.shares, .int .i64 l.lend, .int .i64 l.borrow, .int .i64 l.queues, .int .i64 l.hand, .int .i64 l.length, .int .i64 l.wait, .int .i64 l.guess]
theorem within_ok (n lo hi : Int) (w : World) : Calls Tryz.prog 59 #[.int .i64 n, .int .i64 lo, .int .i64 hi] w fun e w' => e = .returned (.bool (inI n lo hi)) ∧ w' = w := by
  by_cases h1 : lo ≤ n
  · by_cases h2 : n ≤ hi
    · have e : inI n lo hi = true := inI_iff.2 ⟨h1, h2⟩
      rw [e]
      go_enter Tryz.func59, Tryz.ntmps59
      go_wp2_with fail
      go_ret
      exact ⟨rfl, rfl⟩
    · have e : inI n lo hi = false := by unfold inI; simp [h2]
      rw [e]
      go_enter Tryz.func59, Tryz.ntmps59
      go_wp2_with fail
      go_ret
      exact ⟨rfl, rfl⟩
  · have e : inI n lo hi = false := by unfold inI; simp [h1]
    rw [e]
    go_enter Tryz.func59, Tryz.ntmps59
    go_wp2_with fail
    go_ret
    exact ⟨rfl, rfl⟩
theorem seats_ok (p m : Int) (w : World) : Calls Tryz.prog 60 #[.int .i64 p, .int .i64 m] w fun e w' => e = .returned (.bool (seatsOk p m)) ∧ w' = w := by
  have W1 := fun W => within_ok p 1 1048576 W
  have W2 := fun W => within_ok m 1 16 W
  have e : seatsOk p m = ((p == 0 && m == 0) || (inI p 1 1048576 && inI m 1 16)) := rfl
  rw [e]
  clear e
  generalize inI p 1 1048576 = x at *
  generalize inI m 1 16 = y at *
  cases h1 : (p == 0) <;> cases h2 : (m == 0) <;> cases x <;> cases y <;> (go_enter Tryz.func60, Tryz.ntmps60; go_wp2_with (first | (go_at_call 59; with_reducible refine (W1 _).mono ?_; rintro e w' ⟨rfl, rfl⟩) | (go_at_call 59; with_reducible refine (W2 _).mono ?_; rintro e w' ⟨rfl, rfl⟩)); go_ret; exact ⟨rfl, rfl⟩)
theorem by_ok (n : Int) (w : World) : Calls Tryz.prog 91 #[.int .i64 n] w fun e w' => e = .returned (.string (byW n)) ∧ w' = w := by
  by_cases h0 : n = 0
  · subst h0
    go_enter Tryz.func91, Tryz.ntmps91
    go_wp2_with fail
    go_ret
    exact ⟨rfl, rfl⟩
  by_cases h1 : n = 1
  · subst h1
    go_enter Tryz.func91, Tryz.ntmps91
    go_wp2_with fail
    go_ret
    exact ⟨rfl, rfl⟩
  by_cases h2 : n = 2
  · subst h2
    go_enter Tryz.func91, Tryz.ntmps91
    go_wp2_with fail
    go_ret
    exact ⟨rfl, rfl⟩
  · have e : byW n = mk [] := by unfold byW; rw [if_neg h0, if_neg h1, if_neg h2]
    rw [e]
    have b0 : (n == 0) = false := by simpa using h0
    have b1 : (n == 1) = false := by simpa using h1
    have b2 : (n == 2) = false := by simpa using h2
    clear h0 h1 h2 e
    go_enter Tryz.func91, Tryz.ntmps91
    go_wp2_with fail
    go_ret
    exact ⟨rfl, rfl⟩
/-- A level in a block of its own. -/
theorem lv_box (w : World) (l : Lv) : ∀ (W : World), Below (w.heap.size + 1) (w.alloc (.cells (lvA l) 45)) W → Blk W w.heap.size 45 (lvA l) := fun W h => by
  have n := Blk.new w 45 (lvA l)
  exact (h.block _ (Nat.lt_succ_self _)).trans n
theorem alloc_below (w : World) (o : Obj) : Below w.heap.size w (w.alloc o) := (Below.refl _ _).alloc (Nat.le_refl _) _
theorem shares_ok (l : Lv) (w : World) : Calls Tryz.prog 130 #[.agg (lvA l)] w fun e w' => e = .returned (.bool (sharesOk l)) ∧ Below w.heap.size w w' := by
  have W1 := fun W => within_ok l.shares 0 10000 W
  have W2 := fun W => within_ok l.lend 0 100 W
  have W3 := fun W => within_ok l.borrow 0 1000 W
  have B1 := alloc_below w (.cells (lvA l) 45)
  have N1 := Blk.new w 45 (lvA l)
  have e : sharesOk l = (inI l.shares 0 10000 && (inI l.lend 0 100 && (l.borrow == -1 || inI l.borrow 0 1000))) := rfl
  rw [e]
  clear e
  show Calls Tryz.prog 130 #[.agg #[.string l.name, .int .i64 l.kind, .int .i64 l.shares, .int .i64 l.lend, .int .i64 l.borrow, .int .i64 l.queues, .int .i64 l.hand, .int .i64 l.length, .int .i64 l.wait, .int .i64 l.guess]] w _
  generalize inI l.shares 0 10000 = x at *
  generalize inI l.lend 0 100 = y at *
  generalize inI l.borrow 0 1000 = z at *
  have c2 := N1.cellv (v := .int .i64 l.shares) 2 rfl
  have c3 := N1.cellv (v := .int .i64 l.lend) 3 rfl
  have c4 := N1.cellv (v := .int .i64 l.borrow) 4 rfl
  unfold lvA at B1 c2 c3 c4
  go_enter Tryz.func130, Tryz.ntmps130
  go_upto_region 1 with fail
  generalize w.alloc _ = w1 at *
  cases h1 : (l.borrow == -1) <;> cases x <;> cases y <;> cases z <;> (go_wp2_with (first | (go_at_call 59; with_reducible refine (W1 _).mono ?_; rintro e w' ⟨rfl, rfl⟩) | (go_at_call 59; with_reducible refine (W2 _).mono ?_; rintro e w' ⟨rfl, rfl⟩) | (go_at_call 59; with_reducible refine (W3 _).mono ?_; rintro e w' ⟨rfl, rfl⟩)); go_ret; exact ⟨(by first | rfl | (rw [h1]; rfl)), B1⟩)

theorem lanes_ok (l : Lv) (w : World) : Calls Tryz.prog 131 #[.agg (lvA l)] w fun e w' => e = .returned (.bool (lanesOk l)) ∧ Below w.heap.size w w' := by
  have W1 := fun W => within_ok l.queues 1 64 W
  have W2 := fun W => within_ok l.hand 1 8 W
  have W3 := fun W => within_ok l.length 1 64 W
  have W4 := fun W => within_ok l.wait 1 1000 W
  have W5 := fun W => within_ok l.guess 1 1000 W
  have B1 := alloc_below w (.cells (lvA l) 45)
  have N1 := Blk.new w 45 (lvA l)
  have e : lanesOk l = (inI l.queues 1 64 && (inI l.hand 1 8 && (inI l.length 1 64 && (inI l.wait 1 1000 && inI l.guess 1 1000)))) := rfl
  rw [e]
  clear e
  show Calls Tryz.prog 131 #[.agg #[.string l.name, .int .i64 l.kind, .int .i64 l.shares, .int .i64 l.lend, .int .i64 l.borrow, .int .i64 l.queues, .int .i64 l.hand, .int .i64 l.length, .int .i64 l.wait, .int .i64 l.guess]] w _
  generalize inI l.queues 1 64 = x at *
  generalize inI l.hand 1 8 = y at *
  generalize inI l.length 1 64 = z at *
  generalize inI l.wait 1 1000 = t at *
  generalize inI l.guess 1 1000 = u at *
  have c5 := N1.cellv (v := .int .i64 l.queues) 5 rfl
  have c6 := N1.cellv (v := .int .i64 l.hand) 6 rfl
  have c7 := N1.cellv (v := .int .i64 l.length) 7 rfl
  have c8 := N1.cellv (v := .int .i64 l.wait) 8 rfl
  have c9 := N1.cellv (v := .int .i64 l.guess) 9 rfl
  unfold lvA at B1 c5 c6 c7 c8 c9
  go_enter Tryz.func131, Tryz.ntmps131
  go_upto_region 1 with fail
  generalize w.alloc _ = w1 at *
  cases x with
  | false => (go_wp2_with (first | (go_at_call 59; with_reducible refine (W1 _).mono ?_; rintro e w' ⟨rfl, rfl⟩) | (go_at_call 59; with_reducible refine (W2 _).mono ?_; rintro e w' ⟨rfl, rfl⟩) | (go_at_call 59; with_reducible refine (W3 _).mono ?_; rintro e w' ⟨rfl, rfl⟩) | (go_at_call 59; with_reducible refine (W4 _).mono ?_; rintro e w' ⟨rfl, rfl⟩) | (go_at_call 59; with_reducible refine (W5 _).mono ?_; rintro e w' ⟨rfl, rfl⟩)); go_ret; exact ⟨rfl, B1⟩)
  | true =>
    cases y with
    | false => (go_wp2_with (first | (go_at_call 59; with_reducible refine (W1 _).mono ?_; rintro e w' ⟨rfl, rfl⟩) | (go_at_call 59; with_reducible refine (W2 _).mono ?_; rintro e w' ⟨rfl, rfl⟩) | (go_at_call 59; with_reducible refine (W3 _).mono ?_; rintro e w' ⟨rfl, rfl⟩) | (go_at_call 59; with_reducible refine (W4 _).mono ?_; rintro e w' ⟨rfl, rfl⟩) | (go_at_call 59; with_reducible refine (W5 _).mono ?_; rintro e w' ⟨rfl, rfl⟩)); go_ret; exact ⟨rfl, B1⟩)
    | true =>
      cases z with
      | false => (go_wp2_with (first | (go_at_call 59; with_reducible refine (W1 _).mono ?_; rintro e w' ⟨rfl, rfl⟩) | (go_at_call 59; with_reducible refine (W2 _).mono ?_; rintro e w' ⟨rfl, rfl⟩) | (go_at_call 59; with_reducible refine (W3 _).mono ?_; rintro e w' ⟨rfl, rfl⟩) | (go_at_call 59; with_reducible refine (W4 _).mono ?_; rintro e w' ⟨rfl, rfl⟩) | (go_at_call 59; with_reducible refine (W5 _).mono ?_; rintro e w' ⟨rfl, rfl⟩)); go_ret; exact ⟨rfl, B1⟩)
      | true =>
        cases t with
        | false => (go_wp2_with (first | (go_at_call 59; with_reducible refine (W1 _).mono ?_; rintro e w' ⟨rfl, rfl⟩) | (go_at_call 59; with_reducible refine (W2 _).mono ?_; rintro e w' ⟨rfl, rfl⟩) | (go_at_call 59; with_reducible refine (W3 _).mono ?_; rintro e w' ⟨rfl, rfl⟩) | (go_at_call 59; with_reducible refine (W4 _).mono ?_; rintro e w' ⟨rfl, rfl⟩) | (go_at_call 59; with_reducible refine (W5 _).mono ?_; rintro e w' ⟨rfl, rfl⟩)); go_ret; exact ⟨rfl, B1⟩)
        | true =>
          cases u with
          | false => (go_wp2_with (first | (go_at_call 59; with_reducible refine (W1 _).mono ?_; rintro e w' ⟨rfl, rfl⟩) | (go_at_call 59; with_reducible refine (W2 _).mono ?_; rintro e w' ⟨rfl, rfl⟩) | (go_at_call 59; with_reducible refine (W3 _).mono ?_; rintro e w' ⟨rfl, rfl⟩) | (go_at_call 59; with_reducible refine (W4 _).mono ?_; rintro e w' ⟨rfl, rfl⟩) | (go_at_call 59; with_reducible refine (W5 _).mono ?_; rintro e w' ⟨rfl, rfl⟩)); go_ret; exact ⟨rfl, B1⟩)
          | true => (go_wp2_with (first | (go_at_call 59; with_reducible refine (W1 _).mono ?_; rintro e w' ⟨rfl, rfl⟩) | (go_at_call 59; with_reducible refine (W2 _).mono ?_; rintro e w' ⟨rfl, rfl⟩) | (go_at_call 59; with_reducible refine (W3 _).mono ?_; rintro e w' ⟨rfl, rfl⟩) | (go_at_call 59; with_reducible refine (W4 _).mono ?_; rintro e w' ⟨rfl, rfl⟩) | (go_at_call 59; with_reducible refine (W5 _).mono ?_; rintro e w' ⟨rfl, rfl⟩)); go_ret; exact ⟨rfl, B1⟩)

set_option maxRecDepth 20000 in
theorem level_ok (l : Lv) (w : World) (hn : l.name.size ≤ 9223372036854775807) : Calls Tryz.prog 107 #[.agg (lvA l)] w fun e w' => e = .returned (.bool (lvOk l)) ∧ Below w.heap.size w w' := by
  have NM := fun W => name_ok l.name hn W
  have S1 := fun W => shares_ok l W
  have S2 := fun W => lanes_ok l W
  have B1 := alloc_below w (.cells (lvA l) 45)
  have N1 := Blk.new w 45 (lvA l)
  unfold lvA at S1 S2
  show Calls Tryz.prog 107 #[.agg #[.string l.name, .int .i64 l.kind, .int .i64 l.shares, .int .i64 l.lend, .int .i64 l.borrow, .int .i64 l.queues, .int .i64 l.hand, .int .i64 l.length, .int .i64 l.wait, .int .i64 l.guess]] w _
  have c0 := N1.cellv (v := .string l.name) 0 rfl
  have c1 := N1.cellv (v := .int .i64 l.kind) 1 rfl
  have c2 := N1.cellv (v := .int .i64 l.shares) 2 rfl
  have c3 := N1.cellv (v := .int .i64 l.lend) 3 rfl
  have c4 := N1.cellv (v := .int .i64 l.borrow) 4 rfl
  have c5 := N1.cellv (v := .int .i64 l.queues) 5 rfl
  have c6 := N1.cellv (v := .int .i64 l.hand) 6 rfl
  have c7 := N1.cellv (v := .int .i64 l.length) 7 rfl
  have c8 := N1.cellv (v := .int .i64 l.wait) 8 rfl
  have c9 := N1.cellv (v := .int .i64 l.guess) 9 rfl
  unfold lvA at B1 c0 c1 c2 c3 c4 c5 c6 c7 c8 c9
  have HE : Hd (lvOk l = (isName l.name && (if l.kind = 1 then noShares l && noLanes l else if l.kind = 2 then sharesOk l && noLanes l else if l.kind = 3 then sharesOk l && lanesOk l else false))) := ⟨rfl⟩
  generalize lvOk l = R at *
  clear hn N1
  go_enter Tryz.func107, Tryz.ntmps107
  go_upto_region 1 with fail
  generalize w.alloc _ = w1 at *
  cases hN : isName l.name with
  | false =>
    rw [hN] at NM
    have hR : R = false := by rw [HE.out, hN]; rfl
    subst hR
    go_wp2_with (go_at_call 129; refine (NM _).mono ?_; rintro e w' ⟨rfl, rfl⟩)
    go_ret
    exact ⟨rfl, B1⟩
  | true =>
    rw [hN] at NM
    have HE2 : Hd (R = if l.kind = 1 then noShares l && noLanes l else if l.kind = 2 then sharesOk l && noLanes l else if l.kind = 3 then sharesOk l && lanesOk l else false) := ⟨by rw [HE.out, hN]; rfl⟩
    clear HE hN
    by_cases k1 : l.kind = 1
    · rw [if_pos k1] at HE2
      have kb : (l.kind == 1) = true := by simp [k1]
      clear S1 S2
      go_wp2_with (go_at_call 129; refine (NM _).mono ?_; rintro e w' ⟨rfl, rfl⟩)
      all_goals (go_ret; exact ⟨(by rw [HE2.out]; unfold noShares noLanes; simp [*]), B1⟩)
    · rw [if_neg k1] at HE2
      have kb1 : (l.kind == 1) = false := by simpa using k1
      by_cases k2 : l.kind = 2
      · rw [if_pos k2] at HE2
        have kb : (l.kind == 2) = true := by simp [k2]
        have HK : Hd (l.kind = 2) := ⟨k2⟩
        clear S2 k1 k2
        go_wp2_with (go_at_call 129; refine (NM _).mono ?_; rintro e w' ⟨rfl, rfl⟩)
        go_at_call 130
        refine (S1 _).mono ?_
        rintro e w2 ⟨rfl, b2⟩
        have B2 : Hd (Below w.heap.size w w2) := ⟨B1.trans (b2.mono B1.size)⟩
        have hlt : w.heap.size < w'.heap.size := by
          rcases Nat.lt_or_ge w.heap.size w'.heap.size with h1 | h1
          · exact h1
          · simp [World.cell?, Array.getElem?_eq_none h1] at c0
        have d0 := (b2.cell (p := ⟨w.heap.size, 0, none⟩) hlt).trans c0
        have d1 := (b2.cell (p := ⟨w.heap.size, 1, none⟩) hlt).trans c1
        have d2 := (b2.cell (p := ⟨w.heap.size, 2, none⟩) hlt).trans c2
        have d3 := (b2.cell (p := ⟨w.heap.size, 3, none⟩) hlt).trans c3
        have d4 := (b2.cell (p := ⟨w.heap.size, 4, none⟩) hlt).trans c4
        have d5 := (b2.cell (p := ⟨w.heap.size, 5, none⟩) hlt).trans c5
        have d6 := (b2.cell (p := ⟨w.heap.size, 6, none⟩) hlt).trans c6
        have d7 := (b2.cell (p := ⟨w.heap.size, 7, none⟩) hlt).trans c7
        have d8 := (b2.cell (p := ⟨w.heap.size, 8, none⟩) hlt).trans c8
        have d9 := (b2.cell (p := ⟨w.heap.size, 9, none⟩) hlt).trans c9
        clear c0 c1 c2 c3 c4 c5 c6 c7 c8 c9 b2 hlt NM S1
        generalize sharesOk l = sx at *
        cases sx with
        | false =>
          go_wp2_with fail
          go_ret
          exact ⟨(by rw [HE2.out]; rfl), B2.out⟩
        | true =>
          go_wp2_with fail
          all_goals (go_ret; exact ⟨(by rw [HE2.out]; unfold noLanes; simp [*]), B2.out⟩)
      · rw [if_neg k2] at HE2
        have kb2 : (l.kind == 2) = false := by simpa using k2
        by_cases k3 : l.kind = 3
        · rw [if_pos k3] at HE2
          have kb : (l.kind == 3) = true := by simp [k3]
          clear k1 k2 k3
          go_wp2_with (go_at_call 129; refine (NM _).mono ?_; rintro e w' ⟨rfl, rfl⟩)
          go_at_call 130
          refine (S1 _).mono ?_
          rintro e w2 ⟨rfl, b2⟩
          have B2 : Hd (Below w.heap.size w w2) := ⟨B1.trans (b2.mono B1.size)⟩
          have hlt : w.heap.size < w'.heap.size := by
            rcases Nat.lt_or_ge w.heap.size w'.heap.size with h1 | h1
            · exact h1
            · simp [World.cell?, Array.getElem?_eq_none h1] at c0
          have d0 := (b2.cell (p := ⟨w.heap.size, 0, none⟩) hlt).trans c0
          have d1 := (b2.cell (p := ⟨w.heap.size, 1, none⟩) hlt).trans c1
          have d2 := (b2.cell (p := ⟨w.heap.size, 2, none⟩) hlt).trans c2
          have d3 := (b2.cell (p := ⟨w.heap.size, 3, none⟩) hlt).trans c3
          have d4 := (b2.cell (p := ⟨w.heap.size, 4, none⟩) hlt).trans c4
          have d5 := (b2.cell (p := ⟨w.heap.size, 5, none⟩) hlt).trans c5
          have d6 := (b2.cell (p := ⟨w.heap.size, 6, none⟩) hlt).trans c6
          have d7 := (b2.cell (p := ⟨w.heap.size, 7, none⟩) hlt).trans c7
          have d8 := (b2.cell (p := ⟨w.heap.size, 8, none⟩) hlt).trans c8
          have d9 := (b2.cell (p := ⟨w.heap.size, 9, none⟩) hlt).trans c9
          have LN := S2 w2
          clear c0 c1 c2 c3 c4 c5 c6 c7 c8 c9 b2 hlt NM S1 S2
          generalize sharesOk l = sx at *
          generalize lanesOk l = ln at *
          cases sx with
          | false =>
            go_wp2_with fail
            go_ret
            exact ⟨(by rw [HE2.out]; rfl), B2.out⟩
          | true =>
            go_wp2_with (go_at_call 131; refine LN.mono ?_; rintro e w3 ⟨rfl, b3⟩)
            go_ret
            exact ⟨(by rw [HE2.out]; rfl), B2.out.trans (b3.mono B2.out.size)⟩
        · rw [if_neg k3] at HE2
          have kb3 : (l.kind == 3) = false := by simpa using k3
          clear k1 k2 k3 S1 S2
          go_wp2_with (go_at_call 129; refine (NM _).mono ?_; rintro e w' ⟨rfl, rfl⟩)
          go_ret
          exact ⟨(by rw [HE2.out]; rfl), B1⟩
end Go.Proofs.YtijjpblmnlednaaGreatDoor
