/-
  slices.ContainsFunc at the levels and at the schemas: is there one of that name? Condition: they lie in memory.
-/
import Derived.Test.YtaodckojinbdfaaDoorRdD
namespace Go.Proofs.YtaodckojinbdfaaDoor
open Go.RowKit

theorem scCs_len : ∀ (L : List Sc) (V : List Value), V.length = L.length → (scCs L V).length = L.length * 5
  | [], [], _ => rfl
  | s :: L, v :: V, h => by simp [scCs, scC, scCs_len L V (by simpa using h)]; omega
  | [], _ :: _, h => by simp at h
  | _ :: _, [], h => by simp at h
theorem scCs_append : ∀ (A : List Sc) (V : List Value) (s : Sc) (v : Value), V.length = A.length → scCs (A ++ [s]) (V ++ [v]) = scCs A V ++ scC s v
  | [], [], s, v, _ => by simp [scCs]
  | a :: A, u :: V, s, v, h => by simp [scCs, scCs_append A V s v (by simpa using h)]
  | [], _ :: _, _, _, h => by simp at h
  | _ :: _, [], _, _, h => by simp at h
theorem scCs_at : ∀ (L : List Sc) (V : List Value) (i j : Nat) (h : i < L.length) (h' : i < V.length), j < 5 → (scCs L V)[i * 5 + j]? = (scC L[i] V[i])[j]?
  | [], _, i, j, h, _, _ => by simp at h
  | _ :: _, [], i, j, _, h, _ => by simp at h
  | x :: L, v :: V, 0, j, _, _, hj => by
    simp only [scCs, Nat.zero_mul, Nat.zero_add]
    rw [List.getElem?_append_left (by simpa [scC] using hj)]
    rfl
  | x :: L, v :: V, i + 1, j, h, h', hj => by
    have := scCs_at L V i j (by simpa using h) (by simpa using h') hj
    simp only [scCs]
    rw [List.getElem?_append_right (by simp [scC]; omega), show (i + 1) * 5 + j - (scC x v).length = i * 5 + j by simp [scC]; omega]
    simpa using this

/-- What a row of levels reads like. -/
theorem rowLv {B : Nat} {w : World} {v : Value} {L : List Lv} (h : LvOwn B w v L) : (v = .slice none 0 0 ∧ L = []) ∨ ∃ g cap, v = .slice (some ⟨g, 0, none⟩) L.length cap ∧ g < w.heap.size ∧ L.length ≤ cap ∧ ∀ k (h : k < L.length), ∀ j, j < 10 → w.cell? ⟨g, k * 10 + j, none⟩ = (lvC L[k])[j]? := by
  rcases id h.2 with ⟨rfl, e⟩ | ⟨g, cap, cur, rfl, hb, hg, hc, hm, r⟩
  · exact .inl ⟨rfl, List.length_eq_zero_iff.1 e⟩
  · refine .inr ⟨g, cap, rfl, (h.lt g rfl).2, hc, fun k hk j hj => ?_⟩
    have h' : w.ownsRow B 46 10 (.slice (some ⟨g, 0, none⟩) L.length cap) L.length (lvCs L) := h
    rw [h'.cellAt _ (by omega), lvCs_at L k j hk hj]

theorem indexLv (L : List Lv) (g r cap : Nat) (x : ByteArray) (w : World) (hg : w.cell? ⟨g, 0, none⟩ = some (.string x)) (hr : r < w.heap.size) (hl : L.length ≤ 65536)
    (hcs : ∀ k (h : k < L.length), ∀ j, j < 10 → w.cell? ⟨r, k * 10 + j, none⟩ = (lvC L[k])[j]?) :
    Calls Tryd.prog 65 #[.slice (some ⟨r, 0, none⟩) L.length cap, .func (.func 52) #[] #[.pointer (some ⟨g, 0, none⟩)]] w fun e w' => (∃ q : Int, e = .returned (.int .i64 q) ∧ decide (0 ≤ q) = L.any fun l => decide (l.name = x)) ∧ Below w.heap.size w w' := by
  have hlt : g < w.heap.size := by
    rcases Nat.lt_or_ge g w.heap.size with h1 | h1
    · exact h1
    · simp [World.cell?, Array.getElem?_eq_none h1] at hg
  have eg : ∀ args w, (callFunc 52 args).run Tryd.prog w = .ok (.enter 52 args) w := enters_of Tryd.func52 (by kernel_rfl) rfl
  have HC : Hd (∀ k (h : k < L.length), ∀ j, j < 10 → w.cell? ⟨r, k * 10 + j, none⟩ = (lvC L[k])[j]?) := ⟨hcs⟩
  clear hcs
  go_enter Tryd.func65, Tryd.ntmps65
  go_wp2_with fail
  go_loopw [8] (fun i wr => ∃ k : Nat, k ≤ L.length ∧ i = .int .i64 k ∧ Hd (∀ j (h : j < L.length), j < k → L[j].name ≠ x) ∧ Below w.heap.size w wr) (fun i _ => L.length - (intOf i).toNat)
  case atStart => exact ⟨0, Nat.zero_le _, rfl, ⟨fun j _ h => absurd h (Nat.not_lt_zero _)⟩, Below.refl _ _⟩
  case round =>
    obtain ⟨k, hk, rfl, hno, hb⟩ := hrel
    by_cases hlt' : k < L.length
    · have hcs := HC.out
      have hlt := hlt'
      have HI : Hd (k < L.length) := ⟨hlt⟩
      have cs : ∀ j, j < 10 → wr.cell? ⟨r, k * 10 + j, none⟩ = (lvC L[k])[j]? := fun j hj => (hb.cell (p := ⟨r, k * 10 + j, none⟩) hr).trans (hcs k hlt j hj)
      have I := isLv_ok L[k] g x wr ((hb.cell (p := ⟨g, 0, none⟩) (by omega)).trans hg)
      have BB : Hd (Below w.heap.size w wr) := ⟨hb⟩
      have hgl : Hd (g < w.heap.size) := ⟨by omega⟩
      by_cases hx : L[k].name = x
      · have A : Hd ((L.any fun l => decide (l.name = x)) = true) := ⟨List.any_eq_true.2 ⟨L[k], List.getElem_mem hlt, decide_eq_true hx⟩⟩
        rw [decide_eq_true hx] at I
        clear hcs hb hno hx hg
        have x0 : wr.cell? ⟨r, k * 10, none⟩ = some (.string L[k].name) := cs 0 (by decide)
        have x1 : wr.cell? ⟨r, k * 10 + 1, none⟩ = some (.int .i64 L[k].kind) := cs 1 (by decide)
        have x2 : wr.cell? ⟨r, k * 10 + 2, none⟩ = some (.int .i64 L[k].shares) := cs 2 (by decide)
        have x3 : wr.cell? ⟨r, k * 10 + 3, none⟩ = some (.int .i64 L[k].lend) := cs 3 (by decide)
        have x4 : wr.cell? ⟨r, k * 10 + 4, none⟩ = some (.int .i64 L[k].borrow) := cs 4 (by decide)
        have x5 : wr.cell? ⟨r, k * 10 + 5, none⟩ = some (.int .i64 L[k].queues) := cs 5 (by decide)
        have x6 : wr.cell? ⟨r, k * 10 + 6, none⟩ = some (.int .i64 L[k].hand) := cs 6 (by decide)
        have x7 : wr.cell? ⟨r, k * 10 + 7, none⟩ = some (.int .i64 L[k].length) := cs 7 (by decide)
        have x8 : wr.cell? ⟨r, k * 10 + 8, none⟩ = some (.int .i64 L[k].wait) := cs 8 (by decide)
        have x9 : wr.cell? ⟨r, k * 10 + 9, none⟩ = some (.int .i64 L[k].guess) := cs 9 (by decide)
        clear cs
        unfold lvV at I
        generalize L[k] = l at *
        obtain ⟨n, a1, a2, a3, a4, a5, a6, a7, a8, a9⟩ := l
        go_wp2_with (go_at_fn 52; refine I.mono ?_; rintro e w2 ⟨rfl, h2⟩)
        go_ret
        exact ⟨⟨k, rfl, by rw [A.out]; exact decide_eq_true (by omega)⟩, BB.out.trans (h2.mono BB.out.size)⟩
      · have A : Hd (∀ j (h : j < L.length), j < k + 1 → L[j].name ≠ x) := ⟨fun j hj hjk => by
          rcases Nat.lt_or_eq_of_le (Nat.le_of_lt_succ hjk) with h | h
          · exact hno.out j hj h
          · subst h; exact hx⟩
        rw [decide_eq_false hx] at I
        clear hcs hb hno hx hg
        have x0 : wr.cell? ⟨r, k * 10, none⟩ = some (.string L[k].name) := cs 0 (by decide)
        have x1 : wr.cell? ⟨r, k * 10 + 1, none⟩ = some (.int .i64 L[k].kind) := cs 1 (by decide)
        have x2 : wr.cell? ⟨r, k * 10 + 2, none⟩ = some (.int .i64 L[k].shares) := cs 2 (by decide)
        have x3 : wr.cell? ⟨r, k * 10 + 3, none⟩ = some (.int .i64 L[k].lend) := cs 3 (by decide)
        have x4 : wr.cell? ⟨r, k * 10 + 4, none⟩ = some (.int .i64 L[k].borrow) := cs 4 (by decide)
        have x5 : wr.cell? ⟨r, k * 10 + 5, none⟩ = some (.int .i64 L[k].queues) := cs 5 (by decide)
        have x6 : wr.cell? ⟨r, k * 10 + 6, none⟩ = some (.int .i64 L[k].hand) := cs 6 (by decide)
        have x7 : wr.cell? ⟨r, k * 10 + 7, none⟩ = some (.int .i64 L[k].length) := cs 7 (by decide)
        have x8 : wr.cell? ⟨r, k * 10 + 8, none⟩ = some (.int .i64 L[k].wait) := cs 8 (by decide)
        have x9 : wr.cell? ⟨r, k * 10 + 9, none⟩ = some (.int .i64 L[k].guess) := cs 9 (by decide)
        clear cs
        unfold lvV at I
        generalize L[k] = l at *
        obtain ⟨n, a1, a2, a3, a4, a5, a6, a7, a8, a9⟩ := l
        go_wp2_with (go_at_fn 52; refine I.mono ?_; rintro e w2 ⟨rfl, h2⟩)
        go_roundw
        case rel => exact ⟨k + 1, HI.out, by go_num, A, BB.out.trans (h2.mono BB.out.size)⟩
        case measure => have := HI.out; simp [intOf]; omega
    · obtain rfl : k = L.length := by omega
      have A : Hd ((L.any fun l => decide (l.name = x)) = false) := ⟨by
        rw [List.any_eq_false]
        intro l hl'
        obtain ⟨j, hj, rfl⟩ := List.getElem_of_mem hl'
        simpa using hno.out j hj hj⟩
      clear hno hg
      go_wp2_with fail
      go_ret
      exact ⟨⟨-1, rfl, by rw [A.out]; decide⟩, hb⟩

theorem hasLv_ok {B : Nat} {v : Value} {L : List Lv} (g : Nat) (x : ByteArray) (w : World) (hg : w.cell? ⟨g, 0, none⟩ = some (.string x)) (ho : LvOwn B w v L) (hl : L.length ≤ 65536) :
    Calls Tryd.prog 51 #[v, .func (.func 52) #[] #[.pointer (some ⟨g, 0, none⟩)]] w fun e w' => e = .returned (.bool (L.any fun l => decide (l.name = x))) ∧ Below w.heap.size w w' := by
  rcases rowLv ho with ⟨rfl, rfl⟩ | ⟨r, cap, rfl, hr, hc, hcs⟩
  · have I : Calls Tryd.prog 65 #[.slice none 0 0, .func (.func 52) #[] #[.pointer (some ⟨g, 0, none⟩)]] w fun e w' => e = .returned (.int .i64 (-1)) ∧ w' = w := by
      clear hg ho hl
      go_enter Tryd.func65, Tryd.ntmps65
      go_wp2_with fail
      refine wp_loop_rounds 1 ?_
      rw [rounds_succ]
      go_wp2_with fail
      go_ret
      exact ⟨rfl, rfl⟩
    clear hg ho hl
    go_enter Tryd.func51, Tryd.ntmps51
    go_wp2_with (go_at_call 65; refine I.mono ?_; rintro e w' ⟨rfl, hw⟩; obtain rfl := hw.symm)
    go_ret
    exact ⟨rfl, Below.refl _ _⟩
  · have I := indexLv L g r cap x w hg hr hl hcs
    clear hg hcs hr ho
    generalize (L.any fun l => decide (l.name = x)) = b at *
    go_enter Tryd.func51, Tryd.ntmps51
    go_wp2_with (go_at_call 65; refine I.mono ?_; rintro e w' ⟨⟨q, rfl, hq⟩, hb⟩)
    go_ret
    exact ⟨by rw [← hq]; rfl, hb⟩

/-- What a row of schemas reads like. -/
theorem rowSc {B : Nat} {w : World} {v : Value} {L : List Sc} {V : List Value} (h : ScOwn B w v L V) : (v = .slice none 0 0 ∧ L = []) ∨ ∃ g cap, v = .slice (some ⟨g, 0, none⟩) L.length cap ∧ g < w.heap.size ∧ L.length ≤ cap ∧ ∀ k (h : k < L.length) (h' : k < V.length), ∀ j, j < 5 → w.cell? ⟨g, k * 5 + j, none⟩ = (scC L[k] V[k])[j]? := by
  rcases id h.own.2 with ⟨rfl, e⟩ | ⟨g, cap, cur, rfl, hb, hg, hc, hm, r⟩
  · exact .inl ⟨rfl, List.length_eq_zero_iff.1 e⟩
  · refine .inr ⟨g, cap, rfl, (h.own.lt g rfl).2, hc, fun k hk hk' j hj => ?_⟩
    rw [h.own.cellAt _ (by omega), scCs_at L V k j hk hk' hj]

theorem indexSc (L : List Sc) (V : List Value) (hV : V.length = L.length) (g r cap : Nat) (x : ByteArray) (w : World) (hg : w.cell? ⟨g, 0, none⟩ = some (.string x)) (hr : r < w.heap.size) (hl : L.length ≤ 65536)
    (hcs : ∀ k (h : k < L.length) (h' : k < V.length), ∀ j, j < 5 → w.cell? ⟨r, k * 5 + j, none⟩ = (scC L[k] V[k])[j]?) :
    Calls Tryd.prog 66 #[.slice (some ⟨r, 0, none⟩) L.length cap, .func (.func 55) #[] #[.pointer (some ⟨g, 0, none⟩)]] w fun e w' => (∃ q : Int, e = .returned (.int .i64 q) ∧ decide (0 ≤ q) = L.any fun l => decide (l.name = x)) ∧ Below w.heap.size w w' := by
  have hlt : g < w.heap.size := by
    rcases Nat.lt_or_ge g w.heap.size with h1 | h1
    · exact h1
    · simp [World.cell?, Array.getElem?_eq_none h1] at hg
  have eg : ∀ args w, (callFunc 55 args).run Tryd.prog w = .ok (.enter 55 args) w := enters_of Tryd.func55 (by kernel_rfl) rfl
  have HC : Hd (∀ k (h : k < L.length) (h' : k < V.length), ∀ j, j < 5 → w.cell? ⟨r, k * 5 + j, none⟩ = (scC L[k] V[k])[j]?) := ⟨hcs⟩
  clear hcs
  go_enter Tryd.func66, Tryd.ntmps66
  go_wp2_with fail
  go_loopw [8] (fun i wr => ∃ k : Nat, k ≤ L.length ∧ i = .int .i64 k ∧ Hd (∀ j (h : j < L.length), j < k → L[j].name ≠ x) ∧ Below w.heap.size w wr) (fun i _ => L.length - (intOf i).toNat)
  case atStart => exact ⟨0, Nat.zero_le _, rfl, ⟨fun j _ h => absurd h (Nat.not_lt_zero _)⟩, Below.refl _ _⟩
  case round =>
    obtain ⟨k, hk, rfl, hno, hb⟩ := hrel
    by_cases hlt' : k < L.length
    · have hcs := HC.out
      have hlt := hlt'
      have HI : Hd (k < L.length) := ⟨hlt⟩
      have hkV : k < V.length := by omega
      have cs : ∀ j, j < 5 → wr.cell? ⟨r, k * 5 + j, none⟩ = (scC L[k] V[k])[j]? := fun j hj => (hb.cell (p := ⟨r, k * 5 + j, none⟩) hr).trans (hcs k hlt (by omega) j hj)
      have I := isSc_ok L[k] V[k] g x wr ((hb.cell (p := ⟨g, 0, none⟩) (by omega)).trans hg)
      have BB : Hd (Below w.heap.size w wr) := ⟨hb⟩
      have hgl : Hd (g < w.heap.size) := ⟨by omega⟩
      by_cases hx : L[k].name = x
      · have A : Hd ((L.any fun l => decide (l.name = x)) = true) := ⟨List.any_eq_true.2 ⟨L[k], List.getElem_mem hlt, decide_eq_true hx⟩⟩
        rw [decide_eq_true hx] at I
        clear hcs hb hno hx hg
        have x0 : wr.cell? ⟨r, k * 5, none⟩ = some (.string L[k].name) := cs 0 (by decide)
        have x1 : wr.cell? ⟨r, k * 5 + 1, none⟩ = some (.string L[k].level) := cs 1 (by decide)
        have x2 : wr.cell? ⟨r, k * 5 + 2, none⟩ = some (.int .i64 L[k].rank) := cs 2 (by decide)
        have x3 : wr.cell? ⟨r, k * 5 + 3, none⟩ = some (.int .i64 L[k].way) := cs 3 (by decide)
        have x4 : wr.cell? ⟨r, k * 5 + 4, none⟩ = some (V[k]) := cs 4 (by decide)
        clear cs
        unfold scV at I
        generalize V[k] = vv at *
        generalize L[k] = l at *
        obtain ⟨n, a1, a2, a3, a4⟩ := l
        go_wp2_with (go_at_fn 55; refine I.mono ?_; rintro e w2 ⟨rfl, h2⟩)
        go_ret
        exact ⟨⟨k, rfl, by rw [A.out]; exact decide_eq_true (by omega)⟩, BB.out.trans (h2.mono BB.out.size)⟩
      · have A : Hd (∀ j (h : j < L.length), j < k + 1 → L[j].name ≠ x) := ⟨fun j hj hjk => by
          rcases Nat.lt_or_eq_of_le (Nat.le_of_lt_succ hjk) with h | h
          · exact hno.out j hj h
          · subst h; exact hx⟩
        rw [decide_eq_false hx] at I
        clear hcs hb hno hx hg
        have x0 : wr.cell? ⟨r, k * 5, none⟩ = some (.string L[k].name) := cs 0 (by decide)
        have x1 : wr.cell? ⟨r, k * 5 + 1, none⟩ = some (.string L[k].level) := cs 1 (by decide)
        have x2 : wr.cell? ⟨r, k * 5 + 2, none⟩ = some (.int .i64 L[k].rank) := cs 2 (by decide)
        have x3 : wr.cell? ⟨r, k * 5 + 3, none⟩ = some (.int .i64 L[k].way) := cs 3 (by decide)
        have x4 : wr.cell? ⟨r, k * 5 + 4, none⟩ = some (V[k]) := cs 4 (by decide)
        clear cs
        unfold scV at I
        generalize V[k] = vv at *
        generalize L[k] = l at *
        obtain ⟨n, a1, a2, a3, a4⟩ := l
        go_wp2_with (go_at_fn 55; refine I.mono ?_; rintro e w2 ⟨rfl, h2⟩)
        go_roundw
        case rel => exact ⟨k + 1, HI.out, by go_num, A, BB.out.trans (h2.mono BB.out.size)⟩
        case measure => have := HI.out; simp [intOf]; omega
    · obtain rfl : k = L.length := by omega
      have A : Hd ((L.any fun l => decide (l.name = x)) = false) := ⟨by
        rw [List.any_eq_false]
        intro l hl'
        obtain ⟨j, hj, rfl⟩ := List.getElem_of_mem hl'
        simpa using hno.out j hj hj⟩
      clear hno hg
      go_wp2_with fail
      go_ret
      exact ⟨⟨-1, rfl, by rw [A.out]; decide⟩, hb⟩

theorem hasSc_ok {B : Nat} {v : Value} {L : List Sc} {V : List Value} (g : Nat) (x : ByteArray) (w : World) (hg : w.cell? ⟨g, 0, none⟩ = some (.string x)) (ho : ScOwn B w v L V) (hl : L.length ≤ 65536) :
    Calls Tryd.prog 54 #[v, .func (.func 55) #[] #[.pointer (some ⟨g, 0, none⟩)]] w fun e w' => e = .returned (.bool (L.any fun l => decide (l.name = x))) ∧ Below w.heap.size w w' := by
  rcases rowSc ho with ⟨rfl, rfl⟩ | ⟨r, cap, rfl, hr, hc, hcs⟩
  · have I : Calls Tryd.prog 66 #[.slice none 0 0, .func (.func 55) #[] #[.pointer (some ⟨g, 0, none⟩)]] w fun e w' => e = .returned (.int .i64 (-1)) ∧ w' = w := by
      clear hg ho hl
      go_enter Tryd.func66, Tryd.ntmps66
      go_wp2_with fail
      refine wp_loop_rounds 1 ?_
      rw [rounds_succ]
      go_wp2_with fail
      go_ret
      exact ⟨rfl, rfl⟩
    clear hg ho hl
    go_enter Tryd.func54, Tryd.ntmps54
    go_wp2_with (go_at_call 66; refine I.mono ?_; rintro e w' ⟨rfl, hw⟩; obtain rfl := hw.symm)
    go_ret
    exact ⟨rfl, Below.refl _ _⟩
  · have I := indexSc L V ho.len g r cap x w hg hr hl hcs
    clear hg hcs hr ho
    generalize (L.any fun l => decide (l.name = x)) = b at *
    go_enter Tryd.func54, Tryd.ntmps54
    go_wp2_with (go_at_call 66; refine I.mono ?_; rintro e w' ⟨⟨q, rfl, hq⟩, hb⟩)
    go_ret
    exact ⟨by rw [← hq]; rfl, hb⟩

end Go.Proofs.YtaodckojinbdfaaDoor
