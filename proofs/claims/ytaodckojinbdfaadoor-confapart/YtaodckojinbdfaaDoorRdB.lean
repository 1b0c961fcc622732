/-
  What the reader's methods 'number', 'name', 'borrow', 'by' of the program do, and 'kindOf'. Condition: the reader lies in memory.
-/
import Derived.Test.YtaodckojinbdfaaDoorRdA
namespace Go.Proofs.YtaodckojinbdfaaDoor
open Go.RowKit

theorem number_rd {B R A : Nat} {ws : List ByteArray} {e : Int} (w : World) (H : Rd B w R A ws e) (lo hi : Int) :
    Calls Tryd.prog 46 #[.pointer (some ⟨R, 0, none⟩), .int .i64 lo, .int .i64 hi] w fun r w' => r = .returned (.int .i64 (numOf (gt ws 0) lo hi)) ∧ Rd B w' R A ws.tail (mu e (ifE (numIn (gt ws 0) lo hi) 8)) ∧ Kept (fun k => k = R) w w' := by
  have W := word_rd w H
  have N := fun w => number_ok (gt ws 0) lo hi (by have := H.sh 0; omega) w
  clear H
  generalize gt ws 0 = x at *
  generalize numOf x lo hi = n at *
  generalize numIn x lo hi = b at *
  generalize ws.tail = t at *
  go_enter Tryd.func46, Tryd.ntmps46
  go_wp2_with (first
    | (go_at_call 30; refine W.mono ?_; rintro r w1 ⟨rfl, h1, k1⟩; have HH : Hd (Rd B w1 R A t e ∧ Kept (fun k => k = R) w w1) := ⟨h1, k1⟩; clear h1 k1)
    | (go_at_call 63; refine (N _).mono ?_; rintro r w2 ⟨rfl, hw⟩; obtain rfl := hw.symm)
    | (go_at_call 37; refine (must_ok _ HH.out.1 b 8).mono ?_; rintro r w2 ⟨rfl, h2, k2⟩))
  go_ret
  exact ⟨rfl, h2, HH.out.2.trans k2⟩

theorem name_rd {B R A : Nat} {ws : List ByteArray} {e : Int} (w : World) (H : Rd B w R A ws e) :
    Calls Tryd.prog 49 #[.pointer (some ⟨R, 0, none⟩)] w fun r w' => r = .returned (.string (gt ws 0)) ∧ Rd B w' R A ws.tail (mu e (ifE (isName (gt ws 0)) 4)) ∧ Kept (fun k => k = R) w w' := by
  have W := word_rd w H
  have N := fun w => name_ok (gt ws 0) (by have := H.sh 0; omega) w
  clear H
  generalize gt ws 0 = x at *
  generalize isName x = b at *
  generalize ws.tail = t at *
  go_enter Tryd.func49, Tryd.ntmps49
  go_wp2_with (first
    | (go_at_call 30; refine W.mono ?_; rintro r w1 ⟨rfl, h1, k1⟩; have HH : Hd (Rd B w1 R A t e ∧ Kept (fun k => k = R) w w1) := ⟨h1, k1⟩; clear h1 k1)
    | (go_at_call 64; refine (N _).mono ?_; rintro r w2 ⟨rfl, hw⟩; obtain rfl := hw.symm)
    | (go_at_call 37; refine (must_ok _ HH.out.1 b 4).mono ?_; rintro r w2 ⟨rfl, h2, k2⟩))
  go_ret
  exact ⟨rfl, h2, HH.out.2.trans k2⟩

theorem lst (x : ByteArray) (l : List UInt8) (h : x.data.toList = l) : x.toList = l := by rw [ByteArray.toList_eq]; exact h
/-- A text is held against a constant. -/
theorem str_is {x y : ByteArray} (h : x = y) : (x.toList == y.toList) = true := by subst h; simp
theorem str_isnt {x y : ByteArray} (h : x ≠ y) : (x.toList == y.toList) = false := str_ne h

theorem by_rd {B R A : Nat} {ws : List ByteArray} {e : Int} (w : World) (H : Rd B w R A ws e) :
    Calls Tryd.prog 53 #[.pointer (some ⟨R, 0, none⟩)] w fun r w' => r = .returned (.int .i64 (byOf (gt ws 0))) ∧ Rd B w' R A ws.tail (mu e (ifE (byOk (gt ws 0)) 2)) ∧ Kept (fun k => k = R) w w' := by
  have W := word_rd w H
  clear H
  generalize gt ws 0 = x at *
  generalize ws.tail = t at *
  by_cases h1 : x = tNone
  · have e1 : byOf x = 0 := by rw [h1]; rfl
    have e2 : byOk x = true := by rw [h1]; rfl
    rw [e1, e2, mu_yes]
    subst h1
    clear e1 e2
    unfold tNone at W
    go_enter Tryd.func53, Tryd.ntmps53
    go_wp2_with (first
      | (go_at_call 30; refine W.mono ?_; rintro r w1 ⟨rfl, h1, k1⟩; have HH : Hd (Rd B w1 R A t e ∧ Kept (fun k => k = R) w w1) := ⟨h1, k1⟩; clear h1 k1))
    go_ret
    exact ⟨rfl, HH.out.1, HH.out.2⟩
  by_cases h2 : x = tUser
  · have e1 : byOf x = 1 := by rw [h2]; rfl
    have e2 : byOk x = true := by rw [h2]; rfl
    rw [e1, e2, mu_yes]
    subst h2
    clear e1 e2 h1
    unfold tUser at W
    go_enter Tryd.func53, Tryd.ntmps53
    go_wp2_with (first
      | (go_at_call 30; refine W.mono ?_; rintro r w1 ⟨rfl, h1, k1⟩; have HH : Hd (Rd B w1 R A t e ∧ Kept (fun k => k = R) w w1) := ⟨h1, k1⟩; clear h1 k1))
    go_ret
    exact ⟨rfl, HH.out.1, HH.out.2⟩
  by_cases h3 : x = tSpace
  · have e1 : byOf x = 2 := by rw [h3]; rfl
    have e2 : byOk x = true := by rw [h3]; rfl
    rw [e1, e2, mu_yes]
    subst h3
    clear e1 e2 h1 h2
    unfold tSpace at W
    go_enter Tryd.func53, Tryd.ntmps53
    go_wp2_with (first
      | (go_at_call 30; refine W.mono ?_; rintro r w1 ⟨rfl, h1, k1⟩; have HH : Hd (Rd B w1 R A t e ∧ Kept (fun k => k = R) w w1) := ⟨h1, k1⟩; clear h1 k1))
    go_ret
    exact ⟨rfl, HH.out.1, HH.out.2⟩
  have e1 : byOf x = 0 := by unfold byOf; rw [if_neg h2, if_neg h3]
  have e2 : byOk x = false := by unfold byOk; simp [h1, h2, h3]
  rw [e1, e2]
  have n1 := str_isnt h1
  have n2 := str_isnt h2
  have n3 := str_isnt h3
  rw [lst tNone [110, 111, 110, 101] rfl] at n1
  rw [lst tUser [117, 115, 101, 114] rfl] at n2
  rw [lst tSpace [115, 112, 97, 99, 101] rfl] at n3
  clear e1 e2 h1 h2 h3
  go_enter Tryd.func53, Tryd.ntmps53
  go_wp2_with (first
    | (go_at_call 30; refine W.mono ?_; rintro r w1 ⟨rfl, h1, k1⟩; have HH : Hd (Rd B w1 R A t e ∧ Kept (fun k => k = R) w w1) := ⟨h1, k1⟩; clear h1 k1)
    | (go_at_call 37; refine (must_ok _ HH.out.1 false 2).mono ?_; rintro r w2 ⟨rfl, h2, k2⟩))
  go_ret
  exact ⟨rfl, h2, HH.out.2.trans k2⟩

theorem borrow_rd {B R A : Nat} {ws : List ByteArray} {e : Int} (w : World) (H : Rd B w R A ws e) :
    Calls Tryd.prog 50 #[.pointer (some ⟨R, 0, none⟩)] w fun r w' => r = .returned (.int .i64 (borrowOf (gt ws 0))) ∧ Rd B w' R A ws.tail (mu e (ifE (borrowOk (gt ws 0)) 8)) ∧ Kept (fun k => k = R) w w' := by
  have W := word_rd w H
  have N := number_rd w H 0 1000
  obtain ⟨a, c, hb, hr, hc, h6⟩ := H.ex
  have c0 := hb.cellv 0 rfl
  cases ws with
  | nil =>
    have e1 : borrowOf (gt [] 0) = numOf (gt [] 0) 0 1000 := rfl
    have e2 : borrowOk (gt [] 0) = numIn (gt [] 0) 0 1000 := rfl
    rw [e1, e2]
    clear H hb hr hc e1 e2 W
    generalize numOf (gt [] 0) 0 1000 = n at *
    generalize numIn (gt [] 0) 0 1000 = q at *
    go_enter Tryd.func50, Tryd.ntmps50
    go_wp2_with (go_at_call 46; refine N.mono ?_; rintro r w1 ⟨rfl, h1, k1⟩)
    go_ret
    exact ⟨rfl, h1, k1⟩
  | cons x t =>
    obtain ⟨b, off, rfl, hbl, hcs⟩ := hr.row (by simp)
    have hcell := hcs 0 (by simp)
    rw [Nat.add_zero] at hcell
    have g0 : gt (x :: t) 0 = x := rfl
    rw [g0] at hcell W N ⊢
    rw [List.length_cons] at c0
    have hl6 : t.length + 1 ≤ 65536 := h6
    clear H hb hr hc hcs g0 h6
    simp only [List.tail_cons] at W N ⊢
    have hsz : ∀ s : List ByteArray, s = t → s.length = t.length := fun s hs => by rw [hs]
    clear hsz
    generalize hm : t.length = m at *
    clear hm
    by_cases h1 : x = tAll
    · have e1 : borrowOf x = -1 := by unfold borrowOf; rw [if_pos h1]
      have e2 : borrowOk x = true := by unfold borrowOk; rw [if_pos h1]
      rw [e1, e2, mu_yes]
      subst h1
      clear e1 e2 N
      unfold tAll at W hcell
      go_enter Tryd.func50, Tryd.ntmps50
      go_wp2_with (go_at_call 30; refine W.mono ?_; rintro r w1 ⟨rfl, h1, k1⟩; have HH : Hd (Rd B w1 R A t e ∧ Kept (fun k => k = R) w w1) := ⟨h1, k1⟩; clear h1 k1)
      go_ret
      exact ⟨rfl, HH.out.1, HH.out.2⟩
    · have e1 : borrowOf x = numOf x 0 1000 := by unfold borrowOf; rw [if_neg h1]
      have e2 : borrowOk x = numIn x 0 1000 := by unfold borrowOk; rw [if_neg h1]
      rw [e1, e2]
      have n1 := str_isnt h1
      rw [lst tAll [97, 108, 108] rfl] at n1
      clear e1 e2 h1 W
      generalize numOf x 0 1000 = n at *
      generalize numIn x 0 1000 = q at *
      go_enter Tryd.func50, Tryd.ntmps50
      go_wp2_with (go_at_call 46; refine N.mono ?_; rintro r w1 ⟨rfl, h1, k1⟩)
      go_ret
      exact ⟨rfl, h1, k1⟩

end Go.Proofs.YtaodckojinbdfaaDoor
