/-
  What 'table.Level' and the reference's answer: the first level of a name, or none.
  What 'table.Level' and the reference's answer: the first level of a name, or none.
-/
import Derived.Test.YtijjpblmnlednaaGreatDoorE42
namespace Go.Proofs.YtijjpblmnlednaaGreatDoor
open Go.RowKit
def findL (L : List Lv) (x : ByteArray) : Option Lv := L.find? fun l => decide (l.name = x)
theorem find_at : ∀ (L : List Lv) (x : ByteArray) (k : Nat) (h : k < L.length), L[k].name = x → (∀ j (hj : j < L.length), j < k → L[j].name ≠ x) → findL L x = some L[k]
  | l :: r, x, 0, _, e, _ => by
    unfold findL
    rw [List.find?_cons, decide_eq_true (show l.name = x from e)]
    rfl
  | l :: r, x, k + 1, h, e, hn => by
    unfold findL
    rw [List.find?_cons, decide_eq_false (show ¬ l.name = x from hn 0 (by simp) (by omega))]
    exact find_at r x k (by simpa using h) e (fun j hj hjk => hn (j + 1) (by simpa using hj) (by omega))
theorem find_none (L : List Lv) (x : ByteArray) (h : ∀ j (hj : j < L.length), L[j].name ≠ x) : findL L x = none := by
  unfold findL
  rw [List.find?_eq_none]
  intro l hl
  obtain ⟨j, hj, rfl⟩ := List.getElem_of_mem hl
  simpa using h j hj
/-- A place, or -1. -/
def Idx (L : List Lv) (x : ByteArray) (q : Int) : Prop := (q = -1 ∧ findL L x = none) ∨ ∃ (k : Nat) (h : k < L.length), q = k ∧ findL L x = some L[k]
def lvZ : Lv := ⟨⟨#[]⟩, 0, 0, 0, 0, 0, 0, 0, 0, 0⟩

theorem pisLvT (l : Lv) (g : Nat) (x : ByteArray) (w : World) (hg : w.cell? ⟨g, 0, none⟩ = some (.string x)) :
    Calls Tryz.prog 24 #[lvV l, .pointer (some ⟨g, 0, none⟩)] w fun r w' => r = .returned (.bool (decide (l.name = x))) ∧ Below w.heap.size w w' := by
  have hlt : g < w.heap.size := by
    rcases Nat.lt_or_ge g w.heap.size with h1 | h1
    · exact h1
    · simp [World.cell?, Array.getElem?_eq_none h1] at hg
  rw [← name_eq]
  obtain ⟨n, a1, a2, a3, a4, a5, a6, a7, a8, a9⟩ := l
  have b1 : Below w.heap.size w (w.alloc (.cells #[.string n, .int .i64 a1, .int .i64 a2, .int .i64 a3, .int .i64 a4, .int .i64 a5, .int .i64 a6, .int .i64 a7, .int .i64 a8, .int .i64 a9] 45)) := (Below.refl _ _).alloc (Nat.le_refl _) _
  have y1 : (w.alloc (.cells #[.string n, .int .i64 a1, .int .i64 a2, .int .i64 a3, .int .i64 a4, .int .i64 a5, .int .i64 a6, .int .i64 a7, .int .i64 a8, .int .i64 a9] 45)).cell? ⟨g, 0, none⟩ = some (.string x) := (b1.cell (p := ⟨g, 0, none⟩) hlt).trans hg
  have BB : Hd (Below w.heap.size w (w.alloc (.cells #[.string n, .int .i64 a1, .int .i64 a2, .int .i64 a3, .int .i64 a4, .int .i64 a5, .int .i64 a6, .int .i64 a7, .int .i64 a8, .int .i64 a9] 45))) := ⟨b1⟩
  clear hg b1
  unfold lvV
  go_enter Tryz.func24, Tryz.ntmps24
  go_wp2_with fail
  go_ret
  exact ⟨rfl, BB.out⟩


theorem pindexT (L : List Lv) (g r ro cap : Nat) (x : ByteArray) (w : World) (hg : w.cell? ⟨g, 0, none⟩ = some (.string x)) (hr : r < w.heap.size) (hl : L.length ≤ 65536)
    (hcs : ∀ k (h : k < L.length), ∀ j, j < 10 → w.cell? ⟨r, ro + k * 10 + j, none⟩ = (lvC L[k])[j]?) :
    Calls Tryz.prog 23 #[.slice (some ⟨r, ro, none⟩) L.length cap, .func (.func 24) #[] #[.pointer (some ⟨g, 0, none⟩)]] w fun e w' => (∃ q : Int, e = .returned (.int .i64 q) ∧ Idx L x q) ∧ Below w.heap.size w w' := by
  have hlt : g < w.heap.size := by
    rcases Nat.lt_or_ge g w.heap.size with h1 | h1
    · exact h1
    · simp [World.cell?, Array.getElem?_eq_none h1] at hg
  have eg : ∀ args w, (callFunc 24 args).run Tryz.prog w = .ok (.enter 24 args) w := enters_of Tryz.func24 (by kernel_rfl) rfl
  have HC : Hd (∀ k (h : k < L.length), ∀ j, j < 10 → w.cell? ⟨r, ro + k * 10 + j, none⟩ = (lvC L[k])[j]?) := ⟨hcs⟩
  clear hcs
  go_enter Tryz.func23, Tryz.ntmps23
  go_wp2_with fail
  go_loopw [8] (fun i wr => ∃ k : Nat, k ≤ L.length ∧ i = .int .i64 k ∧ Hd (∀ j (h : j < L.length), j < k → L[j].name ≠ x) ∧ Below w.heap.size w wr) (fun i _ => L.length - (intOf i).toNat)
  case atStart => exact ⟨0, Nat.zero_le _, rfl, ⟨fun j _ h => absurd h (Nat.not_lt_zero _)⟩, Below.refl _ _⟩
  case round =>
    obtain ⟨k, hk, rfl, hno, hb⟩ := hrel
    by_cases hlt' : k < L.length
    · have hcs := HC.out
      have hlt := hlt'
      have HI : Hd (k < L.length) := ⟨hlt⟩
      have cs : ∀ j, j < 10 → wr.cell? ⟨r, ro + k * 10 + j, none⟩ = (lvC L[k])[j]? := fun j hj => (hb.cell (p := ⟨r, ro + k * 10 + j, none⟩) hr).trans (hcs k hlt j hj)
      have I := pisLvT L[k] g x wr ((hb.cell (p := ⟨g, 0, none⟩) (by omega)).trans hg)
      have BB : Hd (Below w.heap.size w wr) := ⟨hb⟩
      have hgl : Hd (g < w.heap.size) := ⟨by omega⟩
      by_cases hx : L[k].name = x
      · have A : Hd (Idx L x k) := ⟨.inr ⟨k, hlt, rfl, find_at L x k hlt hx hno.out⟩⟩
        rw [decide_eq_true hx] at I
        clear hcs hb hno hx hg
        have x0 : wr.cell? ⟨r, ro + k * 10, none⟩ = some (.string L[k].name) := cs 0 (by decide)
        have x1 : wr.cell? ⟨r, ro + k * 10 + 1, none⟩ = some (.int .i64 L[k].kind) := cs 1 (by decide)
        have x2 : wr.cell? ⟨r, ro + k * 10 + 2, none⟩ = some (.int .i64 L[k].shares) := cs 2 (by decide)
        have x3 : wr.cell? ⟨r, ro + k * 10 + 3, none⟩ = some (.int .i64 L[k].lend) := cs 3 (by decide)
        have x4 : wr.cell? ⟨r, ro + k * 10 + 4, none⟩ = some (.int .i64 L[k].borrow) := cs 4 (by decide)
        have x5 : wr.cell? ⟨r, ro + k * 10 + 5, none⟩ = some (.int .i64 L[k].queues) := cs 5 (by decide)
        have x6 : wr.cell? ⟨r, ro + k * 10 + 6, none⟩ = some (.int .i64 L[k].hand) := cs 6 (by decide)
        have x7 : wr.cell? ⟨r, ro + k * 10 + 7, none⟩ = some (.int .i64 L[k].length) := cs 7 (by decide)
        have x8 : wr.cell? ⟨r, ro + k * 10 + 8, none⟩ = some (.int .i64 L[k].wait) := cs 8 (by decide)
        have x9 : wr.cell? ⟨r, ro + k * 10 + 9, none⟩ = some (.int .i64 L[k].guess) := cs 9 (by decide)
        clear cs
        unfold lvV at I
        generalize L[k] = l at *
        obtain ⟨n, a1, a2, a3, a4, a5, a6, a7, a8, a9⟩ := l
        go_wp2_with (go_at_fn 24; refine I.mono ?_; rintro e w2 ⟨rfl, h2⟩)
        go_ret
        exact ⟨⟨k, rfl, A.out⟩, BB.out.trans (h2.mono BB.out.size)⟩
      · have A : Hd (∀ j (h : j < L.length), j < k + 1 → L[j].name ≠ x) := ⟨fun j hj hjk => by
          rcases Nat.lt_or_eq_of_le (Nat.le_of_lt_succ hjk) with h | h
          · exact hno.out j hj h
          · subst h; exact hx⟩
        rw [decide_eq_false hx] at I
        clear hcs hb hno hx hg
        have x0 : wr.cell? ⟨r, ro + k * 10, none⟩ = some (.string L[k].name) := cs 0 (by decide)
        have x1 : wr.cell? ⟨r, ro + k * 10 + 1, none⟩ = some (.int .i64 L[k].kind) := cs 1 (by decide)
        have x2 : wr.cell? ⟨r, ro + k * 10 + 2, none⟩ = some (.int .i64 L[k].shares) := cs 2 (by decide)
        have x3 : wr.cell? ⟨r, ro + k * 10 + 3, none⟩ = some (.int .i64 L[k].lend) := cs 3 (by decide)
        have x4 : wr.cell? ⟨r, ro + k * 10 + 4, none⟩ = some (.int .i64 L[k].borrow) := cs 4 (by decide)
        have x5 : wr.cell? ⟨r, ro + k * 10 + 5, none⟩ = some (.int .i64 L[k].queues) := cs 5 (by decide)
        have x6 : wr.cell? ⟨r, ro + k * 10 + 6, none⟩ = some (.int .i64 L[k].hand) := cs 6 (by decide)
        have x7 : wr.cell? ⟨r, ro + k * 10 + 7, none⟩ = some (.int .i64 L[k].length) := cs 7 (by decide)
        have x8 : wr.cell? ⟨r, ro + k * 10 + 8, none⟩ = some (.int .i64 L[k].wait) := cs 8 (by decide)
        have x9 : wr.cell? ⟨r, ro + k * 10 + 9, none⟩ = some (.int .i64 L[k].guess) := cs 9 (by decide)
        clear cs
        unfold lvV at I
        generalize L[k] = l at *
        obtain ⟨n, a1, a2, a3, a4, a5, a6, a7, a8, a9⟩ := l
        go_wp2_with (go_at_fn 24; refine I.mono ?_; rintro e w2 ⟨rfl, h2⟩)
        go_roundw
        case rel => exact ⟨k + 1, HI.out, by go_num, A, BB.out.trans (h2.mono BB.out.size)⟩
        case measure => have := HI.out; simp [intOf]; omega
    · obtain rfl : k = L.length := by omega
      have A : Hd (Idx L x (-1)) := ⟨.inl ⟨rfl, find_none L x (fun j hj => hno.out j hj hj)⟩⟩
      clear hno hg
      go_wp2_with fail
      go_ret
      exact ⟨⟨-1, rfl, A.out⟩, hb⟩


theorem pindexAny (a : Option Addr) (c : Nat) (L : List Lv) (g : Nat) (x : ByteArray) (w : World) (hg : w.cell? ⟨g, 0, none⟩ = some (.string x)) (hr : LvR w a L) (hl : L.length ≤ 65536) :
    Calls Tryz.prog 23 #[.slice a L.length c, .func (.func 24) #[] #[.pointer (some ⟨g, 0, none⟩)]] w fun e w' => (∃ q : Int, e = .returned (.int .i64 q) ∧ Idx L x q) ∧ Below w.heap.size w w' := by
  cases L with
  | nil =>
    have A : Hd (Idx [] x (-1)) := ⟨.inl ⟨rfl, rfl⟩⟩
    clear hg hr hl
    show Calls Tryz.prog 23 #[.slice a 0 c, .func (.func 24) #[] #[.pointer (some ⟨g, 0, none⟩)]] w _
    go_enter Tryz.func23, Tryz.ntmps23
    go_wp2_with fail
    refine wp_loop_rounds 1 ?_
    rw [rounds_succ]
    go_wp2_with fail
    go_ret
    exact ⟨⟨-1, rfl, A.out⟩, Below.refl _ _⟩
  | cons l0 L0 =>
    obtain ⟨r, ro, rfl, hb, hcs⟩ := hr (by simp)
    exact pindexT (l0 :: L0) g r ro c x w hg hb hl hcs
theorem res15 (tmps : Array Value) (w : World) (r0 : Nat) (l : Lv) (q : Value) (ht : tmps[4]?.getD undef = .pointer (some ⟨r0, 0, none⟩)) (hq : tmps[5]?.getD undef = q) (h : Blk w r0 45 (lvA l)) :
    (results Tryz.f9 tmps).run Tryz.prog w = .ok (.tuple #[lvV l, q]) w := by
  have c0 := h.cellv (v := .string l.name) 0 rfl
  have c1 := h.cellv (v := .int .i64 l.kind) 1 rfl
  have c2 := h.cellv (v := .int .i64 l.shares) 2 rfl
  have c3 := h.cellv (v := .int .i64 l.lend) 3 rfl
  have c4 := h.cellv (v := .int .i64 l.borrow) 4 rfl
  have c5 := h.cellv (v := .int .i64 l.queues) 5 rfl
  have c6 := h.cellv (v := .int .i64 l.hand) 6 rfl
  have c7 := h.cellv (v := .int .i64 l.length) 7 rfl
  have c8 := h.cellv (v := .int .i64 l.wait) 8 rfl
  have c9 := h.cellv (v := .int .i64 l.guess) 9 rfl
  simp [results, Tryz.results9, go_sem, ht, hq, c0, c1, c2, c3, c4, c5, c6, c7, c8, c9, lvV]
/-- A level's ten cells, put. -/
theorem ten_set {w : World} {g : Nat} {z : Lv} (h : Blk w g 45 (lvA z)) (l : Lv) :
    Blk ((((((((((w.setCell ⟨g, 0, none⟩ (.string l.name)).setCell ⟨g, 1, none⟩ (.int .i64 l.kind)).setCell ⟨g, 2, none⟩ (.int .i64 l.shares)).setCell ⟨g, 3, none⟩ (.int .i64 l.lend)).setCell ⟨g, 4, none⟩ (.int .i64 l.borrow)).setCell ⟨g, 5, none⟩ (.int .i64 l.queues)).setCell ⟨g, 6, none⟩ (.int .i64 l.hand)).setCell ⟨g, 7, none⟩ (.int .i64 l.length)).setCell ⟨g, 8, none⟩ (.int .i64 l.wait)).setCell ⟨g, 9, none⟩ (.int .i64 l.guess)) g 45 (lvA l)
    ∧ Kept (fun k => k = g) w ((((((((((w.setCell ⟨g, 0, none⟩ (.string l.name)).setCell ⟨g, 1, none⟩ (.int .i64 l.kind)).setCell ⟨g, 2, none⟩ (.int .i64 l.shares)).setCell ⟨g, 3, none⟩ (.int .i64 l.lend)).setCell ⟨g, 4, none⟩ (.int .i64 l.borrow)).setCell ⟨g, 5, none⟩ (.int .i64 l.queues)).setCell ⟨g, 6, none⟩ (.int .i64 l.hand)).setCell ⟨g, 7, none⟩ (.int .i64 l.length)).setCell ⟨g, 8, none⟩ (.int .i64 l.wait)).setCell ⟨g, 9, none⟩ (.int .i64 l.guess)) := by
  refine ⟨?_, ((((((((((Kept.refl (fun k => k = g) w).setCell _ _ (.inl rfl)).setCell _ _ (.inl rfl)).setCell _ _ (.inl rfl)).setCell _ _ (.inl rfl)).setCell _ _ (.inl rfl)).setCell _ _ (.inl rfl)).setCell _ _ (.inl rfl)).setCell _ _ (.inl rfl)).setCell _ _ (.inl rfl)).setCell _ _ (.inl rfl)⟩
  have := (((((((((h.set 0 (.string l.name)).set 1 (.int .i64 l.kind)).set 2 (.int .i64 l.shares)).set 3 (.int .i64 l.lend)).set 4 (.int .i64 l.borrow)).set 5 (.int .i64 l.queues)).set 6 (.int .i64 l.hand)).set 7 (.int .i64 l.length)).set 8 (.int .i64 l.wait)).set 9 (.int .i64 l.guess)
  simpa [lvA] using this
theorem Blk.ten {w : World} {g : Nat} {l : Lv} (h : Blk w g 45 (lvA l)) :
    (w.cell? ⟨g, 0, none⟩ = some (.string l.name) ∧ w.cell? ⟨g, 1, none⟩ = some (.int .i64 l.kind) ∧ w.cell? ⟨g, 2, none⟩ = some (.int .i64 l.shares) ∧ w.cell? ⟨g, 3, none⟩ = some (.int .i64 l.lend) ∧ w.cell? ⟨g, 4, none⟩ = some (.int .i64 l.borrow) ∧ w.cell? ⟨g, 5, none⟩ = some (.int .i64 l.queues) ∧ w.cell? ⟨g, 6, none⟩ = some (.int .i64 l.hand) ∧ w.cell? ⟨g, 7, none⟩ = some (.int .i64 l.length) ∧ w.cell? ⟨g, 8, none⟩ = some (.int .i64 l.wait) ∧ w.cell? ⟨g, 9, none⟩ = some (.int .i64 l.guess))
    ∧ w.frozen? ⟨g, 0, none⟩ = false ∧ w.frozen? ⟨g, 1, none⟩ = false ∧ w.frozen? ⟨g, 2, none⟩ = false ∧ w.frozen? ⟨g, 3, none⟩ = false ∧ w.frozen? ⟨g, 4, none⟩ = false ∧ w.frozen? ⟨g, 5, none⟩ = false ∧ w.frozen? ⟨g, 6, none⟩ = false ∧ w.frozen? ⟨g, 7, none⟩ = false ∧ w.frozen? ⟨g, 8, none⟩ = false ∧ w.frozen? ⟨g, 9, none⟩ = false :=
  ⟨⟨h.cellv 0 rfl, h.cellv 1 rfl, h.cellv 2 rfl, h.cellv 3 rfl, h.cellv 4 rfl, h.cellv 5 rfl, h.cellv 6 rfl, h.cellv 7 rfl, h.cellv 8 rfl, h.cellv 9 rfl⟩, h.frozen 0, h.frozen 1, h.frozen 2, h.frozen 3, h.frozen 4, h.frozen 5, h.frozen 6, h.frozen 7, h.frozen 8, h.frozen 9⟩

def lvD (o : Option Lv) : Lv := o.getD lvZ

set_option maxRecDepth 20000 in
set_option maxHeartbeats 4000000 in
theorem tlevel_ok (x0 x1 x2 x3 : Int) (d : Nat) (a : Option Addr) (c : Nat) (L : List Lv) (vS : Value) (x : ByteArray) (w : World) (hr : LvR w a L) (hl : L.length ≤ 65536) (hS : ∃ aS m cS, vS = .slice aS m cS) :
    Calls Tryz.prog 9 #[.agg #[.int .i64 x0, .int .i64 x1, .int .i64 x2, .int .i64 x3, .slice a L.length c, vS, .int .u64 d], .string x] w fun e w' => e = .returned (.tuple #[lvV (lvD (findL L x)), .bool (findL L x).isSome]) ∧ Below w.heap.size w w' := by
  obtain ⟨aS, m, cS, rfl⟩ := hS
  have B0 : Hd (Below w.heap.size w (((w.alloc (.cells #[.int .i64 x0, .int .i64 x1, .int .i64 x2, .int .i64 x3, .slice a L.length c, .slice aS m cS, .int .u64 d] 34)).alloc (.cells #[.string x] 9)).alloc (.cells #[.string ⟨#[]⟩, .int .i64 0, .int .i64 0, .int .i64 0, .int .i64 0, .int .i64 0, .int .i64 0, .int .i64 0, .int .i64 0, .int .i64 0] 45))) := ⟨(((Below.refl _ _).alloc (Nat.le_refl _) _).alloc (by simp) _).alloc (by simp; omega) _⟩
  have T0 : Hd (Blk (((w.alloc (.cells #[.int .i64 x0, .int .i64 x1, .int .i64 x2, .int .i64 x3, .slice a L.length c, .slice aS m cS, .int .u64 d] 34)).alloc (.cells #[.string x] 9)).alloc (.cells #[.string ⟨#[]⟩, .int .i64 0, .int .i64 0, .int .i64 0, .int .i64 0, .int .i64 0, .int .i64 0, .int .i64 0, .int .i64 0, .int .i64 0] 45)) w.heap.size 34 #[.int .i64 x0, .int .i64 x1, .int .i64 x2, .int .i64 x3, .slice a L.length c, .slice aS m cS, .int .u64 d]) := ⟨((Blk.new w 34 _).alloc _).alloc _⟩
  have X0 : Hd (Blk (((w.alloc (.cells #[.int .i64 x0, .int .i64 x1, .int .i64 x2, .int .i64 x3, .slice a L.length c, .slice aS m cS, .int .u64 d] 34)).alloc (.cells #[.string x] 9)).alloc (.cells #[.string ⟨#[]⟩, .int .i64 0, .int .i64 0, .int .i64 0, .int .i64 0, .int .i64 0, .int .i64 0, .int .i64 0, .int .i64 0, .int .i64 0] 45)) (w.heap.size + 1) 9 #[.string x]) := ⟨(alloc_new w _ 9 _).alloc _⟩
  have Z0 : Hd (Blk (((w.alloc (.cells #[.int .i64 x0, .int .i64 x1, .int .i64 x2, .int .i64 x3, .slice a L.length c, .slice aS m cS, .int .u64 d] 34)).alloc (.cells #[.string x] 9)).alloc (.cells #[.string ⟨#[]⟩, .int .i64 0, .int .i64 0, .int .i64 0, .int .i64 0, .int .i64 0, .int .i64 0, .int .i64 0, .int .i64 0, .int .i64 0] 45)) (w.heap.size + 1 + 1) 45 (lvA lvZ)) := ⟨by have := alloc_new (w.alloc (.cells #[.int .i64 x0, .int .i64 x1, .int .i64 x2, .int .i64 x3, .slice a L.length c, .slice aS m cS, .int .u64 d] 34)) (.cells #[.string x] 9) 45 (lvA lvZ); rw [show (w.alloc (.cells #[.int .i64 x0, .int .i64 x1, .int .i64 x2, .int .i64 x3, .slice a L.length c, .slice aS m cS, .int .u64 d] 34)).heap.size = w.heap.size + 1 from by simp] at this; exact this⟩
  have HR : Hd (LvR w a L) := ⟨hr⟩
  have t4 := T0.out.cellv 4 rfl
  clear hr
  go_enter Tryz.func9, Tryz.ntmps9
  go_wp2_with fail
  generalize (((w.alloc _).alloc _).alloc _) = w0 at *
  go_at_call 23
  refine (pindexAny a c L (w.heap.size + 1) x w0 (X0.out.cellv 0 rfl) (HR.out.carry B0.out) hl).mono ?_
  rintro e w1 ⟨⟨q, rfl, hq⟩, b1⟩
  have T1 : Hd (Blk w1 w.heap.size 34 _) := ⟨T0.out.kept (Kept.of_below b1 (fun _ => False)) id⟩
  have Z1 : Hd (Blk w1 (w.heap.size + 1 + 1) 45 (lvA lvZ)) := ⟨Z0.out.kept (Kept.of_below b1 (fun _ => False)) id⟩
  have B1 : Hd (Below w.heap.size w w1) := ⟨B0.out.trans (b1.mono B0.out.size)⟩
  clear t4 b1 B0 T0 X0 Z0
  obtain ⟨⟨r0, r1, r2, r3, r4, r5, r6, r7, r8, r9⟩, f0, f1, f2, f3, f4, f5, f6, f7, f8, f9⟩ := Z1.out.ten
  have t4 := T1.out.cellv 4 rfl
  rcases hq with ⟨rfl, hf⟩ | ⟨k, hk, rfl, hf⟩
  · have HF : Hd (findL L x = none) := ⟨hf⟩
    clear hf
    go_wp2_with fail
    obtain ⟨q1, q2⟩ := ten_set Z1.out lvZ
    refine bodyPost_ret (res15 _ _ _ _ _ rfl rfl q1) rfl ?_
    exact ⟨by rw [HF.out]; rfl, B1.out.trans (q2.below B1.out.size (fun k e => by omega))⟩
  · obtain ⟨b, off, rfl, hb, hc⟩ := (HR.out.carry B1.out) (by omega)
    have cs := hc k hk
    have HF : Hd (findL L x = some L[k]) := ⟨hf⟩
    have x0 : w1.cell? ⟨b, off + k * 10, none⟩ = some (.string L[k].name) := cs 0 (by decide)
    have x1 : w1.cell? ⟨b, off + k * 10 + 1, none⟩ = some (.int .i64 L[k].kind) := cs 1 (by decide)
    have x2 : w1.cell? ⟨b, off + k * 10 + 2, none⟩ = some (.int .i64 L[k].shares) := cs 2 (by decide)
    have x3 : w1.cell? ⟨b, off + k * 10 + 3, none⟩ = some (.int .i64 L[k].lend) := cs 3 (by decide)
    have x4 : w1.cell? ⟨b, off + k * 10 + 4, none⟩ = some (.int .i64 L[k].borrow) := cs 4 (by decide)
    have x5 : w1.cell? ⟨b, off + k * 10 + 5, none⟩ = some (.int .i64 L[k].queues) := cs 5 (by decide)
    have x6 : w1.cell? ⟨b, off + k * 10 + 6, none⟩ = some (.int .i64 L[k].hand) := cs 6 (by decide)
    have x7 : w1.cell? ⟨b, off + k * 10 + 7, none⟩ = some (.int .i64 L[k].length) := cs 7 (by decide)
    have x8 : w1.cell? ⟨b, off + k * 10 + 8, none⟩ = some (.int .i64 L[k].wait) := cs 8 (by decide)
    have x9 : w1.cell? ⟨b, off + k * 10 + 9, none⟩ = some (.int .i64 L[k].guess) := cs 9 (by decide)
    have hk' : k ≤ 65536 := by omega
    clear cs hc hf hb HR
    generalize L[k] = l at *
    generalize L.length = n at *
    go_wp2_with fail
    obtain ⟨q1, q2⟩ := ten_set Z1.out l
    refine bodyPost_ret (res15 _ _ _ _ _ rfl rfl q1) rfl ?_
    exact ⟨by rw [HF.out]; rfl, B1.out.trans (q2.below B1.out.size (fun k e => by omega))⟩
end Go.Proofs.YtijjpblmnlednaaGreatDoor
