/-
  What 'kindOf' of the program answers, and slices.ContainsFunc at the levels and at the schemas: is there one of that name? Condition: they lie in memory.
-/
import Derived.Test.YtaodckojinbdfaaDoorRdC
import Derived.Shelf.Abstract
namespace Go.Proofs.YtaodckojinbdfaaDoor
open Go.RowKit

theorem kind_ok (a : Option Addr) (c : Nat) (ws : List ByteArray) (w : World) (hr : RowL w a ws) :
    Calls Tryd.prog 48 #[.slice a ws.length c] w fun r w' => r = .returned (.int .i64 (kindW ws)) ∧ w' = w := by
  by_cases h2 : ws.length = 2
  · obtain ⟨b, off, rfl, _, hcs⟩ := hr (by omega)
    have c1 := hcs 1 (by omega)
    rw [h2]
    by_cases hx : gt ws 1 = tExempt
    · have e : kindW ws = 1 := by unfold kindW; rw [if_pos ⟨h2, hx⟩]
      rw [e]
      rw [hx] at c1
      unfold tExempt at c1
      clear hr hcs e hx h2
      go_enter Tryd.func48, Tryd.ntmps48
      go_wp2_with fail
      go_ret
      exact ⟨rfl, rfl⟩
    · have e : kindW ws = 0 := by unfold kindW; rw [if_neg (fun h => hx h.2), if_neg (fun h => by omega), if_neg (fun h => by omega)]
      rw [e]
      have n1 := str_isnt hx
      rw [lst tExempt [101, 120, 101, 109, 112, 116] rfl] at n1
      clear hr hcs e hx h2
      generalize gt ws 1 = x at *
      go_enter Tryd.func48, Tryd.ntmps48
      go_wp2_with fail
      go_ret
      exact ⟨rfl, rfl⟩
  by_cases h5 : ws.length = 5
  · obtain ⟨b, off, rfl, _, hcs⟩ := hr (by omega)
    have c1 := hcs 4 (by omega)
    rw [h5]
    by_cases hx : gt ws 4 = tReject
    · have e : kindW ws = 2 := by unfold kindW; rw [if_neg (fun h => by omega), if_pos ⟨h5, hx⟩]
      rw [e]
      rw [hx] at c1
      unfold tReject at c1
      clear hr hcs e hx h2 h5
      go_enter Tryd.func48, Tryd.ntmps48
      go_wp2_with fail
      go_ret
      exact ⟨rfl, rfl⟩
    · have e : kindW ws = 0 := by unfold kindW; rw [if_neg (fun h => by omega), if_neg (fun h => hx h.2), if_neg (fun h => by omega)]
      rw [e]
      have n1 := str_isnt hx
      rw [lst tReject [114, 101, 106, 101, 99, 116] rfl] at n1
      clear hr hcs e hx h2 h5
      generalize gt ws 4 = x at *
      go_enter Tryd.func48, Tryd.ntmps48
      go_wp2_with fail
      go_ret
      exact ⟨rfl, rfl⟩
  by_cases h10 : ws.length = 10
  · obtain ⟨b, off, rfl, _, hcs⟩ := hr (by omega)
    have c1 := hcs 4 (by omega)
    rw [h10]
    by_cases hx : gt ws 4 = tQueue
    · have e : kindW ws = 3 := by unfold kindW; rw [if_neg (fun h => by omega), if_neg (fun h => by omega), if_pos ⟨h10, hx⟩]
      rw [e]
      rw [hx] at c1
      unfold tQueue at c1
      clear hr hcs e hx h2 h5 h10
      go_enter Tryd.func48, Tryd.ntmps48
      go_wp2_with fail
      go_ret
      exact ⟨rfl, rfl⟩
    · have e : kindW ws = 0 := by unfold kindW; rw [if_neg (fun h => by omega), if_neg (fun h => by omega), if_neg (fun h => hx h.2)]
      rw [e]
      have n1 := str_isnt hx
      rw [lst tQueue [113, 117, 101, 117, 101] rfl] at n1
      clear hr hcs e hx h2 h5 h10
      generalize gt ws 4 = x at *
      go_enter Tryd.func48, Tryd.ntmps48
      go_wp2_with fail
      go_ret
      exact ⟨rfl, rfl⟩
  have e : kindW ws = 0 := by unfold kindW; rw [if_neg (fun h => by omega), if_neg (fun h => by omega), if_neg (fun h => by omega)]
  rw [e]
  have e2 : ((ws.length : Int) == 2) = false := by simp; omega
  have e5 : ((ws.length : Int) == 5) = false := by simp; omega
  have e10 : ((ws.length : Int) == 10) = false := by simp; omega
  clear hr e h2 h5 h10
  generalize ws.length = n at *
  go_enter Tryd.func48, Tryd.ntmps48
  go_wp2_with fail
  go_ret
  exact ⟨rfl, rfl⟩

/-! ### is there one of that name? -/
def lvV (l : Lv) : Value := .agg #[.string l.name, .int .i64 l.kind, .int .i64 l.shares, .int .i64 l.lend, .int .i64 l.borrow, .int .i64 l.queues, .int .i64 l.hand, .int .i64 l.length, .int .i64 l.wait, .int .i64 l.guess]
def scV (s : Sc) (v : Value) : Value := .agg #[.string s.name, .string s.level, .int .i64 s.rank, .int .i64 s.way, v]

theorem name_eq (x y : ByteArray) : (x.toList == y.toList) = decide (x = y) := by
  by_cases h : x = y
  · rw [str_is h, decide_eq_true h]
  · rw [str_isnt h, decide_eq_false h]

theorem isLv_ok (l : Lv) (g : Nat) (x : ByteArray) (w : World) (hg : w.cell? ⟨g, 0, none⟩ = some (.string x)) :
    Calls Tryd.prog 52 #[lvV l, .pointer (some ⟨g, 0, none⟩)] w fun r w' => r = .returned (.bool (decide (l.name = x))) ∧ Below w.heap.size w w' := by
  have hlt : g < w.heap.size := by
    rcases Nat.lt_or_ge g w.heap.size with h1 | h1
    · exact h1
    · simp [World.cell?, Array.getElem?_eq_none h1] at hg
  rw [← name_eq]
  obtain ⟨n, a1, a2, a3, a4, a5, a6, a7, a8, a9⟩ := l
  have b1 : Below w.heap.size w (w.alloc (.cells #[.string n, .int .i64 a1, .int .i64 a2, .int .i64 a3, .int .i64 a4, .int .i64 a5, .int .i64 a6, .int .i64 a7, .int .i64 a8, .int .i64 a9] 46)) := (Below.refl _ _).alloc (Nat.le_refl _) _
  have y1 : (w.alloc (.cells #[.string n, .int .i64 a1, .int .i64 a2, .int .i64 a3, .int .i64 a4, .int .i64 a5, .int .i64 a6, .int .i64 a7, .int .i64 a8, .int .i64 a9] 46)).cell? ⟨g, 0, none⟩ = some (.string x) := (b1.cell (p := ⟨g, 0, none⟩) hlt).trans hg
  have BB : Hd (Below w.heap.size w (w.alloc (.cells #[.string n, .int .i64 a1, .int .i64 a2, .int .i64 a3, .int .i64 a4, .int .i64 a5, .int .i64 a6, .int .i64 a7, .int .i64 a8, .int .i64 a9] 46))) := ⟨b1⟩
  clear hg b1
  unfold lvV
  go_enter Tryd.func52, Tryd.ntmps52
  go_wp2_with fail
  go_ret
  exact ⟨rfl, BB.out⟩

theorem isSc_ok (l : Sc) (v : Value) (g : Nat) (x : ByteArray) (w : World) (hg : w.cell? ⟨g, 0, none⟩ = some (.string x)) :
    Calls Tryd.prog 55 #[scV l v, .pointer (some ⟨g, 0, none⟩)] w fun r w' => r = .returned (.bool (decide (l.name = x))) ∧ Below w.heap.size w w' := by
  have hlt : g < w.heap.size := by
    rcases Nat.lt_or_ge g w.heap.size with h1 | h1
    · exact h1
    · simp [World.cell?, Array.getElem?_eq_none h1] at hg
  rw [← name_eq]
  obtain ⟨n, a1, a2, a3, a4⟩ := l
  have b1 : Below w.heap.size w (w.alloc (.cells #[.string n, .string a1, .int .i64 a2, .int .i64 a3, v] 49)) := (Below.refl _ _).alloc (Nat.le_refl _) _
  have y1 : (w.alloc (.cells #[.string n, .string a1, .int .i64 a2, .int .i64 a3, v] 49)).cell? ⟨g, 0, none⟩ = some (.string x) := (b1.cell (p := ⟨g, 0, none⟩) hlt).trans hg
  have BB : Hd (Below w.heap.size w (w.alloc (.cells #[.string n, .string a1, .int .i64 a2, .int .i64 a3, v] 49))) := ⟨b1⟩
  clear hg b1
  unfold scV
  go_enter Tryd.func55, Tryd.ntmps55
  go_wp2_with fail
  go_ret
  exact ⟨rfl, BB.out⟩

end Go.Proofs.YtaodckojinbdfaaDoor
