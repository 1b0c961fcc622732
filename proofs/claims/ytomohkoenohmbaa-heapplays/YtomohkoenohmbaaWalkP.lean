/-
  What 'Push' of the reference answers, of a list that lies in memory. Conditions: as each theorem says them.
-/
import Derived.Test.YtomohkoenohmbaaWalkO
namespace Go.Proofs.Ytomohkoenohmbaa
open Go.RowKit Go.Lib Go.Sort Go.Maps

/-- A list that lies in memory, in none of the blocks of S. -/
structure RL (S : Nat → Prop) (w : World) (a : Option Addr) (n cap : Nat) (L : List (Int × Int)) : Prop where
  len : L.length = n
  nil : a = none → n = 0 ∧ cap = 0
  le : n ≤ cap
  room : cap ≤ maxLen
  spot : ∀ x, a = some x → ∃ b off, x = ⟨b, off, none⟩
  row : 0 < n → ∃ b off, a = some ⟨b, off, none⟩ ∧ b < w.heap.size ∧ ¬ S b ∧ ∀ k, k < n → w.cell? ⟨b, off + k * 2, none⟩ = some (.int .u64 (L.getD k (0, 0)).1) ∧ w.cell? ⟨b, off + k * 2 + 1, none⟩ = some (.int .i64 (L.getD k (0, 0)).2)

section
variable {S : Nat → Prop} {w w' : World} {a : Option Addr} {n cap : Nat} {L : List (Int × Int)}
theorem RL.toRow (h : RL S w a n cap L) : Row w a n (fun i => L.getD i (0, 0)) := by
  intro hn
  obtain ⟨b, off, h1, h2, _, h4⟩ := h.row hn
  exact ⟨b, off, h1, h2, h4⟩
theorem RL.kept {T S' : Nat → Prop} (h : RL S w a n cap L) (k : Kept T w w') (hT : ∀ b, b < w.heap.size → ¬ S b → ¬ T b ∧ ¬ S' b) : RL S' w' a n cap L := by
  refine ⟨h.len, h.nil, h.le, h.room, h.spot, fun hn => ?_⟩
  obtain ⟨b, off, h1, h2, h3, h4⟩ := h.row hn
  obtain ⟨t1, t2⟩ := hT b h2 h3
  exact ⟨b, off, h1, Nat.lt_of_lt_of_le h2 k.size, t2, fun j hj => ⟨(k.cell h2 t1).trans (h4 j hj).1, (k.cell h2 t1).trans (h4 j hj).2⟩⟩
theorem RL.below (h : RL S w a n cap L) (k : Below w.heap.size w w') : RL S w' a n cap L := h.kept (Kept.of_below k (fun _ => False)) (fun _ _ hs => ⟨id, hs⟩)
theorem RL.none (S : Nat → Prop) (w : World) : RL S w Option.none 0 0 [] := ⟨rfl, fun _ => ⟨rfl, rfl⟩, Nat.le_refl _, Nat.zero_le _, fun x h => (by cases h), fun h => by omega⟩
theorem RL.of_arr {g : Nat} (h : Arr w g n cap (fun i => L.getD i (0, 0))) (hl : L.length = n) (hg : ¬ S g) : RL S w (some ⟨g, 0, Option.none⟩) n cap L :=
  ⟨hl, fun h => (by cases h), h.len, h.room, fun x e => ⟨g, 0, (by cases e; rfl)⟩, fun _ => ⟨g, 0, rfl, h.lt, hg, fun k hk => by rw [Nat.zero_add]; exact h.cells hk⟩⟩
end

theorem getD_lt {L : List (Int × Int)} {k : Nat} {r : List (Int × Int)} {i : Nat} (hk : k ≤ L.length) (hi : i < k) : (L.take k ++ r).getD i (0, 0) = L.getD i (0, 0) := by
  rw [List.getD_eq_getElem?_getD, List.getD_eq_getElem?_getD, List.getElem?_append_left (by simp; omega), List.getElem?_take, if_pos hi]
theorem getD_ge {L : List (Int × Int)} {k : Nat} {r : List (Int × Int)} {i : Nat} (hk : k ≤ L.length) : (L.take k ++ r).getD (k + i) (0, 0) = r.getD i (0, 0) := by
  rw [List.getD_eq_getElem?_getD, List.getD_eq_getElem?_getD, List.getElem?_append_right (by simp; omega)]
  simp [Nat.min_eq_left hk]

theorem cells_app (f g : Nat → Int × Int) (k m : Nat) : cellsOf f k ++ cellsOf g m = cellsOf (fun i => if i < k then f i else g (i - k)) (k + m) := by
  apply cells_ext
  · rw [List.length_append, cellsOf_len, cellsOf_len]; omega
  · intro i hi
    by_cases c : i < k
    · rw [List.getElem?_append_left (by rw [cellsOf_len]; omega), List.getElem?_append_left (by rw [cellsOf_len]; omega)]
      simp only [if_pos c]
      exact ⟨cellsOf_even f k i c, cellsOf_odd f k i c⟩
    · rw [List.getElem?_append_right (by rw [cellsOf_len]; omega), List.getElem?_append_right (by rw [cellsOf_len]; omega), cellsOf_len]
      simp only [if_neg c]
      rw [show i * 2 - k * 2 = (i - k) * 2 by omega, show i * 2 + 1 - k * 2 = (i - k) * 2 + 1 by omega]
      exact ⟨cellsOf_even g m _ (by omega), cellsOf_odd g m _ (by omega)⟩
theorem cells_congr {f g : Nat → Int × Int} {n : Nat} (h : ∀ i, i < n → f i = g i) : cellsOf f n = cellsOf g n := by
  apply cells_ext
  · exact cellsOf_len f n
  · intro i hi
    rw [← h i hi]
    exact ⟨cellsOf_even f n i hi, cellsOf_odd f n i hi⟩
theorem cells_x (x : Int × Int) : ([.int .u64 x.1, .int .i64 x.2] : List Value) = cellsOf (fun _ => x) 1 := by
  apply cells_ext
  · rfl
  · intro i hi
    obtain rfl : i = 0 := by omega
    exact ⟨rfl, rfl⟩
/-- The cells of a list into which one was put. -/
theorem cells_put (L : List (Int × Int)) (k n : Nat) (x : Int × Int) (hk : k ≤ n) (hn : L.length = n) :
    cellsOf (fun i => L.getD i (0, 0)) k ++ [.int .u64 x.1, .int .i64 x.2] ++ cellsOf (fun i => L.getD (k + i) (0, 0)) (n - k) = cellsOf (fun i => (L.take k ++ x :: L.drop k).getD i (0, 0)) (n + 1) := by
  rw [cells_x, cells_app, cells_app, show k + 1 + (n - k) = n + 1 by omega]
  refine cells_congr fun i hi => ?_
  by_cases c1 : i < k
  · rw [if_pos (by omega), if_pos c1, getD_lt (by omega) c1]
  · obtain ⟨j, rfl⟩ : ∃ j, i = k + j := ⟨i - k, by omega⟩
    rw [getD_ge (by omega)]
    cases j with
    | zero => rw [if_pos (by omega), if_neg (by omega)]; rfl
    | succ j =>
      rw [if_neg (by omega), show k + (k + (j + 1) - (k + 1)) = k + j by omega]
      simp [List.getD_eq_getElem?_getD]
/-- .. of which one was taken. -/
theorem cells_out (L : List (Int × Int)) (k n : Nat) (hk : k < n) (hn : L.length = n) :
    cellsOf (fun i => L.getD i (0, 0)) k ++ cellsOf (fun i => L.getD (k + 1 + i) (0, 0)) (n - (k + 1)) = cellsOf (fun i => (L.take k ++ L.drop (k + 1)).getD i (0, 0)) (n - 1) := by
  rw [cells_app, show k + (n - (k + 1)) = n - 1 by omega]
  refine cells_congr fun i hi => ?_
  by_cases c1 : i < k
  · rw [if_pos c1, getD_lt (by omega) c1]
  · obtain ⟨j, rfl⟩ : ∃ j, i = k + j := ⟨i - k, by omega⟩
    rw [getD_ge (by omega), if_neg (by omega), show k + 1 + (k + j - k) = k + 1 + j by omega]
    simp [List.getD_eq_getElem?_getD]

/-- The cells of a part of a list. -/
theorem part_at {w : World} {b off n : Nat} {L : List (Int × Int)} (h : Row w (some ⟨b, off, none⟩) n (fun i => L.getD i (0, 0))) (k m : Nat) (hm : k + m ≤ n) :
    ∀ j u, (cellsOf (fun i => L.getD (k + i) (0, 0)) m)[j]? = some u → w.cell? ((⟨b, off + k * 2, none⟩ : Addr).add j) = some u := by
  refine cells_at (f := fun i => L.getD (k + i) (0, 0)) (n := m) ?_
  intro hm0
  obtain ⟨b', off', e, hb, hc⟩ := h (by omega)
  cases e
  refine ⟨b, off + k * 2, rfl, hb, fun j hj => ?_⟩
  have := hc (k + j) (by omega)
  rw [show off + (k + j) * 2 = off + k * 2 + j * 2 by omega] at this
  exact this

theorem rpush_twice {S : Nat → Prop} {w : World} {a : Option Addr} {n cap : Nat} {L : List (Int × Int)} (R : RL S w a n cap L) (hn : n ≤ 4096) (x : Int × Int) (p : Nat) (hp : p < n) (he : (L.getD p (0, 0)).2 = x.2) (h : ∀ k, k < p → (L.getD k (0, 0)).2 ≠ x.2) :
    Calls Try.prog 10 #[.slice a n cap, vI x] w fun e w' => e = .returned (.tuple #[.slice a n cap, .int .i64 5]) ∧ Below w.heap.size w w' := by
  have F := fun o => rfind_hit a n cap _ x.2 (w.alloc o) (R.toRow.carry ((Below.refl _ _).alloc (Nat.le_refl _) _)) (by omega) p hp he h
  clear R he h
  unfold vI
  go_enter Try.func10, Try.ntmps10
  go_wp2_with (go_at_call 18; refine (F _).mono ?_; rintro e w' ⟨rfl, hw⟩; obtain rfl := hw.symm)
  go_ret2
  exact ⟨rfl, (Below.refl _ _).alloc (Nat.le_refl _) _⟩
end Go.Proofs.Ytomohkoenohmbaa
