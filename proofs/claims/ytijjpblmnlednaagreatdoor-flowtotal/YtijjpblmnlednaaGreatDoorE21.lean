/-
  Is a level, a schema of a name there? (The closures of fill.) Condition: what is read lies in memory.
-/
import Derived.Test.YtijjpblmnlednaaGreatDoorE9
namespace Go.Proofs.YtijjpblmnlednaaGreatDoor
open Go.RowKit
theorem pisLv_okF (l : Lv) (g : Nat) (x : ByteArray) (w : World) (hg : w.cell? ⟨g, 0, none⟩ = some (.string x)) :
    Calls Tryz.prog 100 #[lvV l, .pointer (some ⟨g, 0, none⟩)] w fun r w' => r = .returned (.bool (decide (l.name = x))) ∧ Below w.heap.size w w' := by
  have hlt : g < w.heap.size := by
    rcases Nat.lt_or_ge g w.heap.size with h1 | h1
    · exact h1
    · simp [World.cell?, Array.getElem?_eq_none h1] at hg
  rw [← name_eq]
  obtain ⟨n, a1, a2, a3, a4, a5, a6, a7, a8, a9⟩ := l
  have b1 : Below w.heap.size w (w.alloc (.cells #[.string n, .int .i64 a1, .int .i64 a2, .int .i64 a3, .int .i64 a4, .int .i64 a5, .int .i64 a6, .int .i64 a7, .int .i64 a8, .int .i64 a9] 45)) := (Below.refl _ _).alloc (Nat.le_refl _) _
  have y1 : (w.alloc (.cells #[.string n, .int .i64 a1, .int .i64 a2, .int .i64 a3, .int .i64 a4, .int .i64 a5, .int .i64 a6, .int .i64 a7, .int .i64 a8, .int .i64 a9] 45)).cell? ⟨g, 0, none⟩ = some (.string x) := (b1.cell (p := ⟨g, 0, none⟩) hlt).trans hg
  have BB : Hd (Below w.heap.size w (w.alloc (.cells #[.string n, .int .i64 a1, .int .i64 a2, .int .i64 a3, .int .i64 a4, .int .i64 a5, .int .i64 a6, .int .i64 a7, .int .i64 a8, .int .i64 a9] 45))) := ⟨b1⟩
  clear hg b1
  unfold lvV
  go_enter Tryz.func100, Tryz.ntmps100
  go_wp2_with fail
  go_ret
  exact ⟨rfl, BB.out⟩

theorem pisSc_okF (l : Sc) (v : Value) (g : Nat) (x : ByteArray) (w : World) (hg : w.cell? ⟨g, 0, none⟩ = some (.string x)) :
    Calls Tryz.prog 104 #[scV l v, .pointer (some ⟨g, 0, none⟩)] w fun r w' => r = .returned (.bool (decide (l.name = x))) ∧ Below w.heap.size w w' := by
  have hlt : g < w.heap.size := by
    rcases Nat.lt_or_ge g w.heap.size with h1 | h1
    · exact h1
    · simp [World.cell?, Array.getElem?_eq_none h1] at hg
  rw [← name_eq]
  obtain ⟨n, a1, a2, a3, a4⟩ := l
  have b1 : Below w.heap.size w (w.alloc (.cells #[.string n, .string a1, .int .i64 a2, .int .i64 a3, v] 53)) := (Below.refl _ _).alloc (Nat.le_refl _) _
  have y1 : (w.alloc (.cells #[.string n, .string a1, .int .i64 a2, .int .i64 a3, v] 53)).cell? ⟨g, 0, none⟩ = some (.string x) := (b1.cell (p := ⟨g, 0, none⟩) hlt).trans hg
  have BB : Hd (Below w.heap.size w (w.alloc (.cells #[.string n, .string a1, .int .i64 a2, .int .i64 a3, v] 53))) := ⟨b1⟩
  clear hg b1
  unfold scV
  go_enter Tryz.func104, Tryz.ntmps104
  go_wp2_with fail
  go_ret
  exact ⟨rfl, BB.out⟩

theorem pindexLvF (L : List Lv) (g r ro cap : Nat) (x : ByteArray) (w : World) (hg : w.cell? ⟨g, 0, none⟩ = some (.string x)) (hr : r < w.heap.size) (hl : L.length ≤ 65536)
    (hcs : ∀ k (h : k < L.length), ∀ j, j < 10 → w.cell? ⟨r, ro + k * 10 + j, none⟩ = (lvC L[k])[j]?) :
    Calls Tryz.prog 23 #[.slice (some ⟨r, ro, none⟩) L.length cap, .func (.func 100) #[] #[.pointer (some ⟨g, 0, none⟩)]] w fun e w' => (∃ q : Int, e = .returned (.int .i64 q) ∧ decide (0 ≤ q) = L.any fun l => decide (l.name = x)) ∧ Below w.heap.size w w' := by
  have hlt : g < w.heap.size := by
    rcases Nat.lt_or_ge g w.heap.size with h1 | h1
    · exact h1
    · simp [World.cell?, Array.getElem?_eq_none h1] at hg
  have eg : ∀ args w, (callFunc 100 args).run Tryz.prog w = .ok (.enter 100 args) w := enters_of Tryz.func100 (by kernel_rfl) rfl
  have HC : Hd (∀ k (h : k < L.length), ∀ j, j < 10 → w.cell? ⟨r, ro + k * 10 + j, none⟩ = (lvC L[k])[j]?) := ⟨hcs⟩
  clear hcs
  go_enter Tryz.func23, Tryz.ntmps23
  go_wp2_with fail
  go_loopw [8] (fun i wr => ∃ k : Nat, k ≤ L.length ∧ i = .int .i64 k ∧ Hd (∀ j (h : j < L.length), j < k → L[j].name ≠ x) ∧ Below w.heap.size w wr) (fun i _ => L.length - (intOf i).toNat)
  case atStart => exact ⟨0, Nat.zero_le _, rfl, ⟨fun j _ h => absurd h (Nat.not_lt_zero _)⟩, Below.refl _ _⟩
  case round =>
    obtain ⟨k, hk, rfl, hno, hb⟩ := hrel
    by_cases hlt' : k < L.length
    · have hcs := HC.out
      have hlt := hlt'
      have HI : Hd (k < L.length) := ⟨hlt⟩
      have cs : ∀ j, j < 10 → wr.cell? ⟨r, ro + k * 10 + j, none⟩ = (lvC L[k])[j]? := fun j hj => (hb.cell (p := ⟨r, ro + k * 10 + j, none⟩) hr).trans (hcs k hlt j hj)
      have I := pisLv_okF L[k] g x wr ((hb.cell (p := ⟨g, 0, none⟩) (by omega)).trans hg)
      have BB : Hd (Below w.heap.size w wr) := ⟨hb⟩
      have hgl : Hd (g < w.heap.size) := ⟨by omega⟩
      by_cases hx : L[k].name = x
      · have A : Hd ((L.any fun l => decide (l.name = x)) = true) := ⟨List.any_eq_true.2 ⟨L[k], List.getElem_mem hlt, decide_eq_true hx⟩⟩
        rw [decide_eq_true hx] at I
        clear hcs hb hno hx hg
        have x0 : wr.cell? ⟨r, ro + k * 10, none⟩ = some (.string L[k].name) := cs 0 (by decide)
        have x1 : wr.cell? ⟨r, ro + k * 10 + 1, none⟩ = some (.int .i64 L[k].kind) := cs 1 (by decide)
        have x2 : wr.cell? ⟨r, ro + k * 10 + 2, none⟩ = some (.int .i64 L[k].shares) := cs 2 (by decide)
        have x3 : wr.cell? ⟨r, ro + k * 10 + 3, none⟩ = some (.int .i64 L[k].lend) := cs 3 (by decide)
        have x4 : wr.cell? ⟨r, ro + k * 10 + 4, none⟩ = some (.int .i64 L[k].borrow) := cs 4 (by decide)
        have x5 : wr.cell? ⟨r, ro + k * 10 + 5, none⟩ = some (.int .i64 L[k].queues) := cs 5 (by decide)
        have x6 : wr.cell? ⟨r, ro + k * 10 + 6, none⟩ = some (.int .i64 L[k].hand) := cs 6 (by decide)
        have x7 : wr.cell? ⟨r, ro + k * 10 + 7, none⟩ = some (.int .i64 L[k].length) := cs 7 (by decide)
        have x8 : wr.cell? ⟨r, ro + k * 10 + 8, none⟩ = some (.int .i64 L[k].wait) := cs 8 (by decide)
        have x9 : wr.cell? ⟨r, ro + k * 10 + 9, none⟩ = some (.int .i64 L[k].guess) := cs 9 (by decide)
        clear cs
        unfold lvV at I
        generalize L[k] = l at *
        obtain ⟨n, a1, a2, a3, a4, a5, a6, a7, a8, a9⟩ := l
        go_wp2_with (go_at_fn 100; refine I.mono ?_; rintro e w2 ⟨rfl, h2⟩)
        go_ret
        exact ⟨⟨k, rfl, by rw [A.out]; exact decide_eq_true (by omega)⟩, BB.out.trans (h2.mono BB.out.size)⟩
      · have A : Hd (∀ j (h : j < L.length), j < k + 1 → L[j].name ≠ x) := ⟨fun j hj hjk => by
          rcases Nat.lt_or_eq_of_le (Nat.le_of_lt_succ hjk) with h | h
          · exact hno.out j hj h
          · subst h; exact hx⟩
        rw [decide_eq_false hx] at I
        clear hcs hb hno hx hg
        have x0 : wr.cell? ⟨r, ro + k * 10, none⟩ = some (.string L[k].name) := cs 0 (by decide)
        have x1 : wr.cell? ⟨r, ro + k * 10 + 1, none⟩ = some (.int .i64 L[k].kind) := cs 1 (by decide)
        have x2 : wr.cell? ⟨r, ro + k * 10 + 2, none⟩ = some (.int .i64 L[k].shares) := cs 2 (by decide)
        have x3 : wr.cell? ⟨r, ro + k * 10 + 3, none⟩ = some (.int .i64 L[k].lend) := cs 3 (by decide)
        have x4 : wr.cell? ⟨r, ro + k * 10 + 4, none⟩ = some (.int .i64 L[k].borrow) := cs 4 (by decide)
        have x5 : wr.cell? ⟨r, ro + k * 10 + 5, none⟩ = some (.int .i64 L[k].queues) := cs 5 (by decide)
        have x6 : wr.cell? ⟨r, ro + k * 10 + 6, none⟩ = some (.int .i64 L[k].hand) := cs 6 (by decide)
        have x7 : wr.cell? ⟨r, ro + k * 10 + 7, none⟩ = some (.int .i64 L[k].length) := cs 7 (by decide)
        have x8 : wr.cell? ⟨r, ro + k * 10 + 8, none⟩ = some (.int .i64 L[k].wait) := cs 8 (by decide)
        have x9 : wr.cell? ⟨r, ro + k * 10 + 9, none⟩ = some (.int .i64 L[k].guess) := cs 9 (by decide)
        clear cs
        unfold lvV at I
        generalize L[k] = l at *
        obtain ⟨n, a1, a2, a3, a4, a5, a6, a7, a8, a9⟩ := l
        go_wp2_with (go_at_fn 100; refine I.mono ?_; rintro e w2 ⟨rfl, h2⟩)
        go_roundw
        case rel => exact ⟨k + 1, HI.out, by go_num, A, BB.out.trans (h2.mono BB.out.size)⟩
        case measure => have := HI.out; simp [intOf]; omega
    · obtain rfl : k = L.length := by omega
      have A : Hd ((L.any fun l => decide (l.name = x)) = false) := ⟨by
        rw [List.any_eq_false]
        intro l hl'
        obtain ⟨j, hj, rfl⟩ := List.getElem_of_mem hl'
        simpa using hno.out j hj hj⟩
      clear hno hg
      go_wp2_with fail
      go_ret
      exact ⟨⟨-1, rfl, by rw [A.out]; decide⟩, hb⟩

theorem pindexScF (L : List Sc) (V : List Value) (hV : V.length = L.length) (g r ro cap : Nat) (x : ByteArray) (w : World) (hg : w.cell? ⟨g, 0, none⟩ = some (.string x)) (hr : r < w.heap.size) (hl : L.length ≤ 65536)
    (hcs : ∀ k (h : k < L.length) (h' : k < V.length), ∀ j, j < 5 → w.cell? ⟨r, ro + k * 5 + j, none⟩ = (scC L[k] V[k])[j]?) :
    Calls Tryz.prog 19 #[.slice (some ⟨r, ro, none⟩) L.length cap, .func (.func 104) #[] #[.pointer (some ⟨g, 0, none⟩)]] w fun e w' => (∃ q : Int, e = .returned (.int .i64 q) ∧ decide (0 ≤ q) = L.any fun l => decide (l.name = x)) ∧ Below w.heap.size w w' := by
  have hlt : g < w.heap.size := by
    rcases Nat.lt_or_ge g w.heap.size with h1 | h1
    · exact h1
    · simp [World.cell?, Array.getElem?_eq_none h1] at hg
  have eg : ∀ args w, (callFunc 104 args).run Tryz.prog w = .ok (.enter 104 args) w := enters_of Tryz.func104 (by kernel_rfl) rfl
  have HC : Hd (∀ k (h : k < L.length) (h' : k < V.length), ∀ j, j < 5 → w.cell? ⟨r, ro + k * 5 + j, none⟩ = (scC L[k] V[k])[j]?) := ⟨hcs⟩
  clear hcs
  go_enter Tryz.func19, Tryz.ntmps19
  go_wp2_with fail
  go_loopw [8] (fun i wr => ∃ k : Nat, k ≤ L.length ∧ i = .int .i64 k ∧ Hd (∀ j (h : j < L.length), j < k → L[j].name ≠ x) ∧ Below w.heap.size w wr) (fun i _ => L.length - (intOf i).toNat)
  case atStart => exact ⟨0, Nat.zero_le _, rfl, ⟨fun j _ h => absurd h (Nat.not_lt_zero _)⟩, Below.refl _ _⟩
  case round =>
    obtain ⟨k, hk, rfl, hno, hb⟩ := hrel
    by_cases hlt' : k < L.length
    · have hcs := HC.out
      have hlt := hlt'
      have HI : Hd (k < L.length) := ⟨hlt⟩
      have hkV : k < V.length := by omega
      have cs : ∀ j, j < 5 → wr.cell? ⟨r, ro + k * 5 + j, none⟩ = (scC L[k] V[k])[j]? := fun j hj => (hb.cell (p := ⟨r, ro + k * 5 + j, none⟩) hr).trans (hcs k hlt (by omega) j hj)
      have I := pisSc_okF L[k] V[k] g x wr ((hb.cell (p := ⟨g, 0, none⟩) (by omega)).trans hg)
      have BB : Hd (Below w.heap.size w wr) := ⟨hb⟩
      have hgl : Hd (g < w.heap.size) := ⟨by omega⟩
      by_cases hx : L[k].name = x
      · have A : Hd ((L.any fun l => decide (l.name = x)) = true) := ⟨List.any_eq_true.2 ⟨L[k], List.getElem_mem hlt, decide_eq_true hx⟩⟩
        rw [decide_eq_true hx] at I
        clear hcs hb hno hx hg
        have x0 : wr.cell? ⟨r, ro + k * 5, none⟩ = some (.string L[k].name) := cs 0 (by decide)
        have x1 : wr.cell? ⟨r, ro + k * 5 + 1, none⟩ = some (.string L[k].level) := cs 1 (by decide)
        have x2 : wr.cell? ⟨r, ro + k * 5 + 2, none⟩ = some (.int .i64 L[k].rank) := cs 2 (by decide)
        have x3 : wr.cell? ⟨r, ro + k * 5 + 3, none⟩ = some (.int .i64 L[k].way) := cs 3 (by decide)
        have x4 : wr.cell? ⟨r, ro + k * 5 + 4, none⟩ = some (V[k]) := cs 4 (by decide)
        clear cs
        unfold scV at I
        generalize V[k] = vv at *
        generalize L[k] = l at *
        obtain ⟨n, a1, a2, a3, a4⟩ := l
        go_wp2_with (go_at_fn 104; refine I.mono ?_; rintro e w2 ⟨rfl, h2⟩)
        go_ret
        exact ⟨⟨k, rfl, by rw [A.out]; exact decide_eq_true (by omega)⟩, BB.out.trans (h2.mono BB.out.size)⟩
      · have A : Hd (∀ j (h : j < L.length), j < k + 1 → L[j].name ≠ x) := ⟨fun j hj hjk => by
          rcases Nat.lt_or_eq_of_le (Nat.le_of_lt_succ hjk) with h | h
          · exact hno.out j hj h
          · subst h; exact hx⟩
        rw [decide_eq_false hx] at I
        clear hcs hb hno hx hg
        have x0 : wr.cell? ⟨r, ro + k * 5, none⟩ = some (.string L[k].name) := cs 0 (by decide)
        have x1 : wr.cell? ⟨r, ro + k * 5 + 1, none⟩ = some (.string L[k].level) := cs 1 (by decide)
        have x2 : wr.cell? ⟨r, ro + k * 5 + 2, none⟩ = some (.int .i64 L[k].rank) := cs 2 (by decide)
        have x3 : wr.cell? ⟨r, ro + k * 5 + 3, none⟩ = some (.int .i64 L[k].way) := cs 3 (by decide)
        have x4 : wr.cell? ⟨r, ro + k * 5 + 4, none⟩ = some (V[k]) := cs 4 (by decide)
        clear cs
        unfold scV at I
        generalize V[k] = vv at *
        generalize L[k] = l at *
        obtain ⟨n, a1, a2, a3, a4⟩ := l
        go_wp2_with (go_at_fn 104; refine I.mono ?_; rintro e w2 ⟨rfl, h2⟩)
        go_roundw
        case rel => exact ⟨k + 1, HI.out, by go_num, A, BB.out.trans (h2.mono BB.out.size)⟩
        case measure => have := HI.out; simp [intOf]; omega
    · obtain rfl : k = L.length := by omega
      have A : Hd ((L.any fun l => decide (l.name = x)) = false) := ⟨by
        rw [List.any_eq_false]
        intro l hl'
        obtain ⟨j, hj, rfl⟩ := List.getElem_of_mem hl'
        simpa using hno.out j hj hj⟩
      clear hno hg
      go_wp2_with fail
      go_ret
      exact ⟨⟨-1, rfl, by rw [A.out]; decide⟩, hb⟩

theorem phasLvF (a : Option Addr) (c : Nat) (L : List Lv) (g : Nat) (x : ByteArray) (w : World) (hg : w.cell? ⟨g, 0, none⟩ = some (.string x)) (hr : LvR w a L) (hl : L.length ≤ 65536) :
    Calls Tryz.prog 99 #[.slice a L.length c, .func (.func 100) #[] #[.pointer (some ⟨g, 0, none⟩)]] w fun e w' => e = .returned (.bool (L.any fun l => decide (l.name = x))) ∧ Below w.heap.size w w' := by
  cases L with
  | nil =>
    have I : Calls Tryz.prog 23 #[.slice a 0 c, .func (.func 100) #[] #[.pointer (some ⟨g, 0, none⟩)]] w fun e w' => e = .returned (.int .i64 (-1)) ∧ w' = w := by
      clear hg hr hl
      go_enter Tryz.func23, Tryz.ntmps23
      go_wp2_with fail
      refine wp_loop_rounds 1 ?_
      rw [rounds_succ]
      go_wp2_with fail
      go_ret
      exact ⟨rfl, rfl⟩
    clear hg hr hl
    show Calls Tryz.prog 99 #[.slice a 0 c, .func (.func 100) #[] #[.pointer (some ⟨g, 0, none⟩)]] w _
    go_enter Tryz.func99, Tryz.ntmps99
    go_wp2_with (go_at_call 23; refine I.mono ?_; rintro e w' ⟨rfl, hw⟩; obtain rfl := hw.symm)
    go_ret
    exact ⟨rfl, Below.refl _ _⟩
  | cons l0 L0 =>
    obtain ⟨r, ro, rfl, hb, hcs⟩ := hr (by simp)
    have I := pindexLvF (l0 :: L0) g r ro c x w hg hb hl hcs
    clear hg hcs hr hb
    generalize ((l0 :: L0).any fun l => decide (l.name = x)) = b at *
    generalize (l0 :: L0).length = m at *
    go_enter Tryz.func99, Tryz.ntmps99
    go_wp2_with (go_at_call 23; refine I.mono ?_; rintro e w' ⟨⟨q, rfl, hq⟩, hb⟩)
    go_ret
    exact ⟨by rw [← hq]; rfl, hb⟩
theorem phasScF (a : Option Addr) (c : Nat) (L : List Sc) (V : List Value) (g : Nat) (x : ByteArray) (w : World) (hg : w.cell? ⟨g, 0, none⟩ = some (.string x)) (hr : ScR w a L V) (hV : V.length = L.length) (hl : L.length ≤ 65536) :
    Calls Tryz.prog 103 #[.slice a L.length c, .func (.func 104) #[] #[.pointer (some ⟨g, 0, none⟩)]] w fun e w' => e = .returned (.bool (L.any fun l => decide (l.name = x))) ∧ Below w.heap.size w w' := by
  cases L with
  | nil =>
    have I : Calls Tryz.prog 19 #[.slice a 0 c, .func (.func 104) #[] #[.pointer (some ⟨g, 0, none⟩)]] w fun e w' => e = .returned (.int .i64 (-1)) ∧ w' = w := by
      clear hg hr hl hV
      go_enter Tryz.func19, Tryz.ntmps19
      go_wp2_with fail
      refine wp_loop_rounds 1 ?_
      rw [rounds_succ]
      go_wp2_with fail
      go_ret
      exact ⟨rfl, rfl⟩
    clear hg hr hl hV
    show Calls Tryz.prog 103 #[.slice a 0 c, .func (.func 104) #[] #[.pointer (some ⟨g, 0, none⟩)]] w _
    go_enter Tryz.func103, Tryz.ntmps103
    go_wp2_with (go_at_call 19; refine I.mono ?_; rintro e w' ⟨rfl, hw⟩; obtain rfl := hw.symm)
    go_ret
    exact ⟨rfl, Below.refl _ _⟩
  | cons l0 L0 =>
    obtain ⟨r, ro, rfl, hb, hcs⟩ := hr (by simp)
    have I := pindexScF (l0 :: L0) V hV g r ro c x w hg hb hl hcs
    clear hg hcs hr hb hV
    generalize ((l0 :: L0).any fun l => decide (l.name = x)) = b at *
    generalize (l0 :: L0).length = m at *
    go_enter Tryz.func103, Tryz.ntmps103
    go_wp2_with (go_at_call 19; refine I.mono ?_; rintro e w' ⟨⟨q, rfl, hq⟩, hb⟩)
    go_ret
    exact ⟨by rw [← hq]; rfl, hb⟩
end Go.Proofs.YtijjpblmnlednaaGreatDoor
