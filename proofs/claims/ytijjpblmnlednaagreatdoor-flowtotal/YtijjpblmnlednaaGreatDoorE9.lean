/-
  Whether a level, or a schema, of that name stands ahead, as 'print' asks it; levels and schemas that are only read.
-/
import Derived.Test.YtijjpblmnlednaaGreatDoorE8
import Derived.Shelf.Abstract
import Derived.Test.YtijjpblmnlednaaGreatDoorE7
namespace Go.Proofs.YtijjpblmnlednaaGreatDoor
open Go.RowKit
theorem str_is {x y : ByteArray} (h : x = y) : (x.toList == y.toList) = true := by subst h; simp
theorem str_isnt {x y : ByteArray} (h : x ≠ y) : (x.toList == y.toList) = false := str_ne h
def lvV (l : Lv) : Value := .agg #[.string l.name, .int .i64 l.kind, .int .i64 l.shares, .int .i64 l.lend, .int .i64 l.borrow, .int .i64 l.queues, .int .i64 l.hand, .int .i64 l.length, .int .i64 l.wait, .int .i64 l.guess]
def scV (s : Sc) (v : Value) : Value := .agg #[.string s.name, .string s.level, .int .i64 s.rank, .int .i64 s.way, v]
theorem name_eq (x y : ByteArray) : (x.toList == y.toList) = decide (x = y) := by
  by_cases h : x = y
  · rw [str_is h, decide_eq_true h]
  · rw [str_isnt h, decide_eq_false h]

/-- Levels, schemas, rules, lists that are read. -/
def LvR (w : World) (a : Option Addr) (L : List Lv) : Prop := 0 < L.length → ∃ b off, a = some ⟨b, off, none⟩ ∧ b < w.heap.size ∧ ∀ k (h : k < L.length), ∀ j, j < 10 → w.cell? ⟨b, off + k * 10 + j, none⟩ = (lvC L[k])[j]?
def ScR (w : World) (a : Option Addr) (L : List Sc) (V : List Value) : Prop := 0 < L.length → ∃ b off, a = some ⟨b, off, none⟩ ∧ b < w.heap.size ∧ ∀ k (h : k < L.length) (h' : k < V.length), ∀ j, j < 5 → w.cell? ⟨b, off + k * 5 + j, none⟩ = (scC L[k] V[k])[j]?
def LsR (w : World) (v : Value) (L : List ByteArray) : Prop := ∃ a c, v = .slice a L.length c ∧ RowL w a L ∧ L.length ≤ c ∧ L.length ≤ 9223372036854775807 ∧ ∀ x ∈ L, x.size ≤ 9223372036854775807
def RuR (w : World) (v0 v1 v2 v3 v4 : Value) (r : Rl) : Prop := LsR w v0 r.users ∧ LsR w v1 r.groups ∧ LsR w v2 r.verbs ∧ LsR w v3 r.resources ∧ LsR w v4 r.spaces
def RlR (w : World) (v : Value) (rs : List Rl) : Prop := ∃ a c, v = .slice a rs.length c ∧ rs.length ≤ 9223372036854775807 ∧ (0 < rs.length → ∃ b off, a = some ⟨b, off, none⟩ ∧ b < w.heap.size ∧ ∀ k (h : k < rs.length), ∃ v0 v1 v2 v3 v4,
  (w.cell? ⟨b, off + k * 5, none⟩ = some v0 ∧ w.cell? ⟨b, off + k * 5 + 1, none⟩ = some v1 ∧ w.cell? ⟨b, off + k * 5 + 2, none⟩ = some v2 ∧ w.cell? ⟨b, off + k * 5 + 3, none⟩ = some v3 ∧ w.cell? ⟨b, off + k * 5 + 4, none⟩ = some v4) ∧ RuR w v0 v1 v2 v3 v4 rs[k])
structure CfR (w : World) (v : Value) (C : Cf) : Prop where
  sz : C.levels.length ≤ 9223372036854775807 ∧ C.schemas.length ≤ 9223372036854775807
  nm : (∀ l ∈ C.levels, l.name.size ≤ 9223372036854775807) ∧ ∀ s ∈ C.schemas, s.name.size ≤ 9223372036854775807 ∧ s.level.size ≤ 9223372036854775807
  ex : ∃ aL cL aS cS V, v = .agg #[.int .i64 C.total, .int .i64 C.period, .int .i64 C.perSeat, .int .i64 C.most, .slice aL C.levels.length cL, .slice aS C.schemas.length cS] ∧ C.levels.length ≤ cL ∧ C.schemas.length ≤ cS ∧ LvR w aL C.levels ∧ V.length = C.schemas.length ∧ ScR w aS C.schemas V ∧ ∀ k (h : k < C.schemas.length) (h' : k < V.length), RlR w V[k] C.schemas[k].rules
theorem LvR.carry {w w' : World} {a : Option Addr} {L : List Lv} (h : LvR w a L) (b : Below w.heap.size w w') : LvR w' a L := fun hn => by
  obtain ⟨g, off, rfl, hg, hc⟩ := h hn
  exact ⟨g, off, rfl, Nat.lt_of_lt_of_le hg b.size, fun k hk j hj => (b.cell (p := ⟨g, off + k * 10 + j, none⟩) hg).trans (hc k hk j hj)⟩
theorem ScR.carry {w w' : World} {a : Option Addr} {L : List Sc} {V : List Value} (h : ScR w a L V) (b : Below w.heap.size w w') : ScR w' a L V := fun hn => by
  obtain ⟨g, off, rfl, hg, hc⟩ := h hn
  exact ⟨g, off, rfl, Nat.lt_of_lt_of_le hg b.size, fun k hk hk' j hj => (b.cell (p := ⟨g, off + k * 5 + j, none⟩) hg).trans (hc k hk hk' j hj)⟩
theorem LsR.carry {w w' : World} {v : Value} {L : List ByteArray} (h : LsR w v L) (b : Below w.heap.size w w') : LsR w' v L := by
  obtain ⟨a, c, e, hr, hc⟩ := h
  exact ⟨a, c, e, hr.carry b, hc⟩
theorem RuR.carry {w w' : World} {v0 v1 v2 v3 v4 : Value} {r : Rl} (h : RuR w v0 v1 v2 v3 v4 r) (b : Below w.heap.size w w') : RuR w' v0 v1 v2 v3 v4 r := ⟨h.1.carry b, h.2.1.carry b, h.2.2.1.carry b, h.2.2.2.1.carry b, h.2.2.2.2.carry b⟩
theorem RlR.carry {w w' : World} {v : Value} {rs : List Rl} (h : RlR w v rs) (b : Below w.heap.size w w') : RlR w' v rs := by
  obtain ⟨a, c, e, hl, h⟩ := h
  refine ⟨a, c, e, hl, fun hn => ?_⟩
  obtain ⟨g, off, rfl, hg, hc⟩ := h hn
  refine ⟨g, off, rfl, Nat.lt_of_lt_of_le hg b.size, fun k hk => ?_⟩
  obtain ⟨v0, v1, v2, v3, v4, ⟨h0, h1, h2, h3, h4⟩, hr⟩ := hc k hk
  exact ⟨v0, v1, v2, v3, v4, ⟨(b.cell (p := ⟨g, off + k * 5, none⟩) hg).trans h0, (b.cell (p := ⟨g, off + k * 5 + 1, none⟩) hg).trans h1, (b.cell (p := ⟨g, off + k * 5 + 2, none⟩) hg).trans h2, (b.cell (p := ⟨g, off + k * 5 + 3, none⟩) hg).trans h3, (b.cell (p := ⟨g, off + k * 5 + 4, none⟩) hg).trans h4⟩, hr.carry b⟩
theorem CfR.carry {w w' : World} {v : Value} {C : Cf} (h : CfR w v C) (b : Below w.heap.size w w') : CfR w' v C := by
  obtain ⟨aL, cL, aS, cS, V, e, h1, h2, h3, h4, h5, h6⟩ := h.ex
  exact ⟨h.sz, h.nm, aL, cL, aS, cS, V, e, h1, h2, h3.carry b, h4, h5.carry b, fun k hk hk' => (h6 k hk hk').carry b⟩

theorem pisLv_ok (l : Lv) (g : Nat) (x : ByteArray) (w : World) (hg : w.cell? ⟨g, 0, none⟩ = some (.string x)) :
    Calls Tryz.prog 106 #[lvV l, .pointer (some ⟨g, 0, none⟩)] w fun r w' => r = .returned (.bool (decide (l.name = x))) ∧ Below w.heap.size w w' := by
  have hlt : g < w.heap.size := by
    rcases Nat.lt_or_ge g w.heap.size with h1 | h1
    · exact h1
    · simp [World.cell?, Array.getElem?_eq_none h1] at hg
  rw [← name_eq]
  obtain ⟨n, a1, a2, a3, a4, a5, a6, a7, a8, a9⟩ := l
  have b1 : Below w.heap.size w (w.alloc (.cells #[.string n, .int .i64 a1, .int .i64 a2, .int .i64 a3, .int .i64 a4, .int .i64 a5, .int .i64 a6, .int .i64 a7, .int .i64 a8, .int .i64 a9] 45)) := (Below.refl _ _).alloc (Nat.le_refl _) _
  have y1 : (w.alloc (.cells #[.string n, .int .i64 a1, .int .i64 a2, .int .i64 a3, .int .i64 a4, .int .i64 a5, .int .i64 a6, .int .i64 a7, .int .i64 a8, .int .i64 a9] 45)).cell? ⟨g, 0, none⟩ = some (.string x) := (b1.cell (p := ⟨g, 0, none⟩) hlt).trans hg
  have BB : Hd (Below w.heap.size w (w.alloc (.cells #[.string n, .int .i64 a1, .int .i64 a2, .int .i64 a3, .int .i64 a4, .int .i64 a5, .int .i64 a6, .int .i64 a7, .int .i64 a8, .int .i64 a9] 45))) := ⟨b1⟩
  clear hg b1
  unfold lvV
  go_enter Tryz.func106, Tryz.ntmps106
  go_wp2_with fail
  go_ret
  exact ⟨rfl, BB.out⟩

theorem pisSc_ok (l : Sc) (v : Value) (g : Nat) (x : ByteArray) (w : World) (hg : w.cell? ⟨g, 0, none⟩ = some (.string x)) :
    Calls Tryz.prog 108 #[scV l v, .pointer (some ⟨g, 0, none⟩)] w fun r w' => r = .returned (.bool (decide (l.name = x))) ∧ Below w.heap.size w w' := by
  have hlt : g < w.heap.size := by
    rcases Nat.lt_or_ge g w.heap.size with h1 | h1
    · exact h1
    · simp [World.cell?, Array.getElem?_eq_none h1] at hg
  rw [← name_eq]
  obtain ⟨n, a1, a2, a3, a4⟩ := l
  have b1 : Below w.heap.size w (w.alloc (.cells #[.string n, .string a1, .int .i64 a2, .int .i64 a3, v] 53)) := (Below.refl _ _).alloc (Nat.le_refl _) _
  have y1 : (w.alloc (.cells #[.string n, .string a1, .int .i64 a2, .int .i64 a3, v] 53)).cell? ⟨g, 0, none⟩ = some (.string x) := (b1.cell (p := ⟨g, 0, none⟩) hlt).trans hg
  have BB : Hd (Below w.heap.size w (w.alloc (.cells #[.string n, .string a1, .int .i64 a2, .int .i64 a3, v] 53))) := ⟨b1⟩
  clear hg b1
  unfold scV
  go_enter Tryz.func108, Tryz.ntmps108
  go_wp2_with fail
  go_ret
  exact ⟨rfl, BB.out⟩

theorem pindexLv (L : List Lv) (g r ro cap : Nat) (x : ByteArray) (w : World) (hg : w.cell? ⟨g, 0, none⟩ = some (.string x)) (hr : r < w.heap.size) (hl : L.length ≤ 65536)
    (hcs : ∀ k (h : k < L.length), ∀ j, j < 10 → w.cell? ⟨r, ro + k * 10 + j, none⟩ = (lvC L[k])[j]?) :
    Calls Tryz.prog 23 #[.slice (some ⟨r, ro, none⟩) L.length cap, .func (.func 106) #[] #[.pointer (some ⟨g, 0, none⟩)]] w fun e w' => (∃ q : Int, e = .returned (.int .i64 q) ∧ decide (0 ≤ q) = L.any fun l => decide (l.name = x)) ∧ Below w.heap.size w w' := by
  have hlt : g < w.heap.size := by
    rcases Nat.lt_or_ge g w.heap.size with h1 | h1
    · exact h1
    · simp [World.cell?, Array.getElem?_eq_none h1] at hg
  have eg : ∀ args w, (callFunc 106 args).run Tryz.prog w = .ok (.enter 106 args) w := enters_of Tryz.func106 (by kernel_rfl) rfl
  have HC : Hd (∀ k (h : k < L.length), ∀ j, j < 10 → w.cell? ⟨r, ro + k * 10 + j, none⟩ = (lvC L[k])[j]?) := ⟨hcs⟩
  clear hcs
  go_enter Tryz.func23, Tryz.ntmps23
  go_wp2_with fail
  go_loopw [8] (fun i wr => ∃ k : Nat, k ≤ L.length ∧ i = .int .i64 k ∧ Hd (∀ j (h : j < L.length), j < k → L[j].name ≠ x) ∧ Below w.heap.size w wr) (fun i _ => L.length - (intOf i).toNat)
  case atStart => exact ⟨0, Nat.zero_le _, rfl, ⟨fun j _ h => absurd h (Nat.not_lt_zero _)⟩, Below.refl _ _⟩
  case round =>
    obtain ⟨k, hk, rfl, hno, hb⟩ := hrel
    by_cases hlt' : k < L.length
    · have hcs := HC.out
      have hlt := hlt'
      have HI : Hd (k < L.length) := ⟨hlt⟩
      have cs : ∀ j, j < 10 → wr.cell? ⟨r, ro + k * 10 + j, none⟩ = (lvC L[k])[j]? := fun j hj => (hb.cell (p := ⟨r, ro + k * 10 + j, none⟩) hr).trans (hcs k hlt j hj)
      have I := pisLv_ok L[k] g x wr ((hb.cell (p := ⟨g, 0, none⟩) (by omega)).trans hg)
      have BB : Hd (Below w.heap.size w wr) := ⟨hb⟩
      have hgl : Hd (g < w.heap.size) := ⟨by omega⟩
      by_cases hx : L[k].name = x
      · have A : Hd ((L.any fun l => decide (l.name = x)) = true) := ⟨List.any_eq_true.2 ⟨L[k], List.getElem_mem hlt, decide_eq_true hx⟩⟩
        rw [decide_eq_true hx] at I
        clear hcs hb hno hx hg
        have x0 : wr.cell? ⟨r, ro + k * 10, none⟩ = some (.string L[k].name) := cs 0 (by decide)
        have x1 : wr.cell? ⟨r, ro + k * 10 + 1, none⟩ = some (.int .i64 L[k].kind) := cs 1 (by decide)
        have x2 : wr.cell? ⟨r, ro + k * 10 + 2, none⟩ = some (.int .i64 L[k].shares) := cs 2 (by decide)
        have x3 : wr.cell? ⟨r, ro + k * 10 + 3, none⟩ = some (.int .i64 L[k].lend) := cs 3 (by decide)
        have x4 : wr.cell? ⟨r, ro + k * 10 + 4, none⟩ = some (.int .i64 L[k].borrow) := cs 4 (by decide)
        have x5 : wr.cell? ⟨r, ro + k * 10 + 5, none⟩ = some (.int .i64 L[k].queues) := cs 5 (by decide)
        have x6 : wr.cell? ⟨r, ro + k * 10 + 6, none⟩ = some (.int .i64 L[k].hand) := cs 6 (by decide)
        have x7 : wr.cell? ⟨r, ro + k * 10 + 7, none⟩ = some (.int .i64 L[k].length) := cs 7 (by decide)
        have x8 : wr.cell? ⟨r, ro + k * 10 + 8, none⟩ = some (.int .i64 L[k].wait) := cs 8 (by decide)
        have x9 : wr.cell? ⟨r, ro + k * 10 + 9, none⟩ = some (.int .i64 L[k].guess) := cs 9 (by decide)
        clear cs
        unfold lvV at I
        generalize L[k] = l at *
        obtain ⟨n, a1, a2, a3, a4, a5, a6, a7, a8, a9⟩ := l
        go_wp2_with (go_at_fn 106; refine I.mono ?_; rintro e w2 ⟨rfl, h2⟩)
        go_ret
        exact ⟨⟨k, rfl, by rw [A.out]; exact decide_eq_true (by omega)⟩, BB.out.trans (h2.mono BB.out.size)⟩
      · have A : Hd (∀ j (h : j < L.length), j < k + 1 → L[j].name ≠ x) := ⟨fun j hj hjk => by
          rcases Nat.lt_or_eq_of_le (Nat.le_of_lt_succ hjk) with h | h
          · exact hno.out j hj h
          · subst h; exact hx⟩
        rw [decide_eq_false hx] at I
        clear hcs hb hno hx hg
        have x0 : wr.cell? ⟨r, ro + k * 10, none⟩ = some (.string L[k].name) := cs 0 (by decide)
        have x1 : wr.cell? ⟨r, ro + k * 10 + 1, none⟩ = some (.int .i64 L[k].kind) := cs 1 (by decide)
        have x2 : wr.cell? ⟨r, ro + k * 10 + 2, none⟩ = some (.int .i64 L[k].shares) := cs 2 (by decide)
        have x3 : wr.cell? ⟨r, ro + k * 10 + 3, none⟩ = some (.int .i64 L[k].lend) := cs 3 (by decide)
        have x4 : wr.cell? ⟨r, ro + k * 10 + 4, none⟩ = some (.int .i64 L[k].borrow) := cs 4 (by decide)
        have x5 : wr.cell? ⟨r, ro + k * 10 + 5, none⟩ = some (.int .i64 L[k].queues) := cs 5 (by decide)
        have x6 : wr.cell? ⟨r, ro + k * 10 + 6, none⟩ = some (.int .i64 L[k].hand) := cs 6 (by decide)
        have x7 : wr.cell? ⟨r, ro + k * 10 + 7, none⟩ = some (.int .i64 L[k].length) := cs 7 (by decide)
        have x8 : wr.cell? ⟨r, ro + k * 10 + 8, none⟩ = some (.int .i64 L[k].wait) := cs 8 (by decide)
        have x9 : wr.cell? ⟨r, ro + k * 10 + 9, none⟩ = some (.int .i64 L[k].guess) := cs 9 (by decide)
        clear cs
        unfold lvV at I
        generalize L[k] = l at *
        obtain ⟨n, a1, a2, a3, a4, a5, a6, a7, a8, a9⟩ := l
        go_wp2_with (go_at_fn 106; refine I.mono ?_; rintro e w2 ⟨rfl, h2⟩)
        go_roundw
        case rel => exact ⟨k + 1, HI.out, by go_num, A, BB.out.trans (h2.mono BB.out.size)⟩
        case measure => have := HI.out; simp [intOf]; omega
    · obtain rfl : k = L.length := by omega
      have A : Hd ((L.any fun l => decide (l.name = x)) = false) := ⟨by
        rw [List.any_eq_false]
        intro l hl'
        obtain ⟨j, hj, rfl⟩ := List.getElem_of_mem hl'
        simpa using hno.out j hj hj⟩
      clear hno hg
      go_wp2_with fail
      go_ret
      exact ⟨⟨-1, rfl, by rw [A.out]; decide⟩, hb⟩

theorem pindexSc (L : List Sc) (V : List Value) (hV : V.length = L.length) (g r ro cap : Nat) (x : ByteArray) (w : World) (hg : w.cell? ⟨g, 0, none⟩ = some (.string x)) (hr : r < w.heap.size) (hl : L.length ≤ 65536)
    (hcs : ∀ k (h : k < L.length) (h' : k < V.length), ∀ j, j < 5 → w.cell? ⟨r, ro + k * 5 + j, none⟩ = (scC L[k] V[k])[j]?) :
    Calls Tryz.prog 19 #[.slice (some ⟨r, ro, none⟩) L.length cap, .func (.func 108) #[] #[.pointer (some ⟨g, 0, none⟩)]] w fun e w' => (∃ q : Int, e = .returned (.int .i64 q) ∧ decide (0 ≤ q) = L.any fun l => decide (l.name = x)) ∧ Below w.heap.size w w' := by
  have hlt : g < w.heap.size := by
    rcases Nat.lt_or_ge g w.heap.size with h1 | h1
    · exact h1
    · simp [World.cell?, Array.getElem?_eq_none h1] at hg
  have eg : ∀ args w, (callFunc 108 args).run Tryz.prog w = .ok (.enter 108 args) w := enters_of Tryz.func108 (by kernel_rfl) rfl
  have HC : Hd (∀ k (h : k < L.length) (h' : k < V.length), ∀ j, j < 5 → w.cell? ⟨r, ro + k * 5 + j, none⟩ = (scC L[k] V[k])[j]?) := ⟨hcs⟩
  clear hcs
  go_enter Tryz.func19, Tryz.ntmps19
  go_wp2_with fail
  go_loopw [8] (fun i wr => ∃ k : Nat, k ≤ L.length ∧ i = .int .i64 k ∧ Hd (∀ j (h : j < L.length), j < k → L[j].name ≠ x) ∧ Below w.heap.size w wr) (fun i _ => L.length - (intOf i).toNat)
  case atStart => exact ⟨0, Nat.zero_le _, rfl, ⟨fun j _ h => absurd h (Nat.not_lt_zero _)⟩, Below.refl _ _⟩
  case round =>
    obtain ⟨k, hk, rfl, hno, hb⟩ := hrel
    by_cases hlt' : k < L.length
    · have hcs := HC.out
      have hlt := hlt'
      have HI : Hd (k < L.length) := ⟨hlt⟩
      have hkV : k < V.length := by omega
      have cs : ∀ j, j < 5 → wr.cell? ⟨r, ro + k * 5 + j, none⟩ = (scC L[k] V[k])[j]? := fun j hj => (hb.cell (p := ⟨r, ro + k * 5 + j, none⟩) hr).trans (hcs k hlt (by omega) j hj)
      have I := pisSc_ok L[k] V[k] g x wr ((hb.cell (p := ⟨g, 0, none⟩) (by omega)).trans hg)
      have BB : Hd (Below w.heap.size w wr) := ⟨hb⟩
      have hgl : Hd (g < w.heap.size) := ⟨by omega⟩
      by_cases hx : L[k].name = x
      · have A : Hd ((L.any fun l => decide (l.name = x)) = true) := ⟨List.any_eq_true.2 ⟨L[k], List.getElem_mem hlt, decide_eq_true hx⟩⟩
        rw [decide_eq_true hx] at I
        clear hcs hb hno hx hg
        have x0 : wr.cell? ⟨r, ro + k * 5, none⟩ = some (.string L[k].name) := cs 0 (by decide)
        have x1 : wr.cell? ⟨r, ro + k * 5 + 1, none⟩ = some (.string L[k].level) := cs 1 (by decide)
        have x2 : wr.cell? ⟨r, ro + k * 5 + 2, none⟩ = some (.int .i64 L[k].rank) := cs 2 (by decide)
        have x3 : wr.cell? ⟨r, ro + k * 5 + 3, none⟩ = some (.int .i64 L[k].way) := cs 3 (by decide)
        have x4 : wr.cell? ⟨r, ro + k * 5 + 4, none⟩ = some (V[k]) := cs 4 (by decide)
        clear cs
        unfold scV at I
        generalize V[k] = vv at *
        generalize L[k] = l at *
        obtain ⟨n, a1, a2, a3, a4⟩ := l
        go_wp2_with (go_at_fn 108; refine I.mono ?_; rintro e w2 ⟨rfl, h2⟩)
        go_ret
        exact ⟨⟨k, rfl, by rw [A.out]; exact decide_eq_true (by omega)⟩, BB.out.trans (h2.mono BB.out.size)⟩
      · have A : Hd (∀ j (h : j < L.length), j < k + 1 → L[j].name ≠ x) := ⟨fun j hj hjk => by
          rcases Nat.lt_or_eq_of_le (Nat.le_of_lt_succ hjk) with h | h
          · exact hno.out j hj h
          · subst h; exact hx⟩
        rw [decide_eq_false hx] at I
        clear hcs hb hno hx hg
        have x0 : wr.cell? ⟨r, ro + k * 5, none⟩ = some (.string L[k].name) := cs 0 (by decide)
        have x1 : wr.cell? ⟨r, ro + k * 5 + 1, none⟩ = some (.string L[k].level) := cs 1 (by decide)
        have x2 : wr.cell? ⟨r, ro + k * 5 + 2, none⟩ = some (.int .i64 L[k].rank) := cs 2 (by decide)
        have x3 : wr.cell? ⟨r, ro + k * 5 + 3, none⟩ = some (.int .i64 L[k].way) := cs 3 (by decide)
        have x4 : wr.cell? ⟨r, ro + k * 5 + 4, none⟩ = some (V[k]) := cs 4 (by decide)
        clear cs
        unfold scV at I
        generalize V[k] = vv at *
        generalize L[k] = l at *
        obtain ⟨n, a1, a2, a3, a4⟩ := l
        go_wp2_with (go_at_fn 108; refine I.mono ?_; rintro e w2 ⟨rfl, h2⟩)
        go_roundw
        case rel => exact ⟨k + 1, HI.out, by go_num, A, BB.out.trans (h2.mono BB.out.size)⟩
        case measure => have := HI.out; simp [intOf]; omega
    · obtain rfl : k = L.length := by omega
      have A : Hd ((L.any fun l => decide (l.name = x)) = false) := ⟨by
        rw [List.any_eq_false]
        intro l hl'
        obtain ⟨j, hj, rfl⟩ := List.getElem_of_mem hl'
        simpa using hno.out j hj hj⟩
      clear hno hg
      go_wp2_with fail
      go_ret
      exact ⟨⟨-1, rfl, by rw [A.out]; decide⟩, hb⟩

theorem phasLv (a : Option Addr) (c : Nat) (L : List Lv) (g : Nat) (x : ByteArray) (w : World) (hg : w.cell? ⟨g, 0, none⟩ = some (.string x)) (hr : LvR w a L) (hl : L.length ≤ 65536) :
    Calls Tryz.prog 99 #[.slice a L.length c, .func (.func 106) #[] #[.pointer (some ⟨g, 0, none⟩)]] w fun e w' => e = .returned (.bool (L.any fun l => decide (l.name = x))) ∧ Below w.heap.size w w' := by
  cases L with
  | nil =>
    have I : Calls Tryz.prog 23 #[.slice a 0 c, .func (.func 106) #[] #[.pointer (some ⟨g, 0, none⟩)]] w fun e w' => e = .returned (.int .i64 (-1)) ∧ w' = w := by
      clear hg hr hl
      go_enter Tryz.func23, Tryz.ntmps23
      go_wp2_with fail
      refine wp_loop_rounds 1 ?_
      rw [rounds_succ]
      go_wp2_with fail
      go_ret
      exact ⟨rfl, rfl⟩
    clear hg hr hl
    show Calls Tryz.prog 99 #[.slice a 0 c, .func (.func 106) #[] #[.pointer (some ⟨g, 0, none⟩)]] w _
    go_enter Tryz.func99, Tryz.ntmps99
    go_wp2_with (go_at_call 23; refine I.mono ?_; rintro e w' ⟨rfl, hw⟩; obtain rfl := hw.symm)
    go_ret
    exact ⟨rfl, Below.refl _ _⟩
  | cons l0 L0 =>
    obtain ⟨r, ro, rfl, hb, hcs⟩ := hr (by simp)
    have I := pindexLv (l0 :: L0) g r ro c x w hg hb hl hcs
    clear hg hcs hr hb
    generalize ((l0 :: L0).any fun l => decide (l.name = x)) = b at *
    generalize (l0 :: L0).length = m at *
    go_enter Tryz.func99, Tryz.ntmps99
    go_wp2_with (go_at_call 23; refine I.mono ?_; rintro e w' ⟨⟨q, rfl, hq⟩, hb⟩)
    go_ret
    exact ⟨by rw [← hq]; rfl, hb⟩
theorem phasSc (a : Option Addr) (c : Nat) (L : List Sc) (V : List Value) (g : Nat) (x : ByteArray) (w : World) (hg : w.cell? ⟨g, 0, none⟩ = some (.string x)) (hr : ScR w a L V) (hV : V.length = L.length) (hl : L.length ≤ 65536) :
    Calls Tryz.prog 103 #[.slice a L.length c, .func (.func 108) #[] #[.pointer (some ⟨g, 0, none⟩)]] w fun e w' => e = .returned (.bool (L.any fun l => decide (l.name = x))) ∧ Below w.heap.size w w' := by
  cases L with
  | nil =>
    have I : Calls Tryz.prog 19 #[.slice a 0 c, .func (.func 108) #[] #[.pointer (some ⟨g, 0, none⟩)]] w fun e w' => e = .returned (.int .i64 (-1)) ∧ w' = w := by
      clear hg hr hl hV
      go_enter Tryz.func19, Tryz.ntmps19
      go_wp2_with fail
      refine wp_loop_rounds 1 ?_
      rw [rounds_succ]
      go_wp2_with fail
      go_ret
      exact ⟨rfl, rfl⟩
    clear hg hr hl hV
    show Calls Tryz.prog 103 #[.slice a 0 c, .func (.func 108) #[] #[.pointer (some ⟨g, 0, none⟩)]] w _
    go_enter Tryz.func103, Tryz.ntmps103
    go_wp2_with (go_at_call 19; refine I.mono ?_; rintro e w' ⟨rfl, hw⟩; obtain rfl := hw.symm)
    go_ret
    exact ⟨rfl, Below.refl _ _⟩
  | cons l0 L0 =>
    obtain ⟨r, ro, rfl, hb, hcs⟩ := hr (by simp)
    have I := pindexSc (l0 :: L0) V hV g r ro c x w hg hb hl hcs
    clear hg hcs hr hb hV
    generalize ((l0 :: L0).any fun l => decide (l.name = x)) = b at *
    generalize (l0 :: L0).length = m at *
    go_enter Tryz.func103, Tryz.ntmps103
    go_wp2_with (go_at_call 19; refine I.mono ?_; rintro e w' ⟨⟨q, rfl, hq⟩, hb⟩)
    go_ret
    exact ⟨by rw [← hq]; rfl, hb⟩
end Go.Proofs.YtijjpblmnlednaaGreatDoor
