/-
  What 'Spread' of the program answers, for every total and all lists. Conditions: the lists lie in memory.
-/
import Derived.Test.YtcombbkhdnipkaaWalkB
import Derived.OwnWalk
import Derived.Laws.CopyOwn
namespace Go.Proofs.Ytcombbkhdnipkaa
open Go.RowKit

/-- A block of n numbers that may be written. -/
def Own (w : World) (b n : Nat) (f : Nat → Int) : Prop :=
  b < w.heap.size ∧ ∀ k, k < n → w.cell? ⟨b, k, none⟩ = some (.int .i64 (f k)) ∧ w.frozen? ⟨b, k, none⟩ = false

theorem Own.row {w : World} {b n : Nat} {f : Nat → Int} (h : Own w b n f) : Row w (some ⟨b, 0, none⟩) n f :=
  fun _ => ⟨b, 0, rfl, h.1, fun k hk => by rw [Nat.zero_add]; exact (h.2 k hk).1⟩
theorem Own.carry {w w' : World} {b n : Nat} {f : Nat → Int} (h : Own w b n f) (g : Below w.heap.size w w') : Own w' b n f :=
  ⟨Nat.lt_of_lt_of_le h.1 g.size, fun k hk => ⟨(g.cell (p := ⟨b, k, none⟩) h.1).trans (h.2 k hk).1, (g.frozen (p := ⟨b, k, none⟩) h.1).trans (h.2 k hk).2⟩⟩
theorem Own.store {w : World} {b n : Nat} {f : Nat → Int} (h : Own w b n f) (i : Nat) (x : Int) (_hi : i < n) : Own (w.setCell ⟨b, i, none⟩ (.int .i64 x)) b n (upd f i x) := by
  refine ⟨by simpa using h.1, fun k hk => ⟨?_, by simpa using (h.2 k hk).2⟩⟩
  by_cases c : k = i
  · subst c
    rw [upd_same]
    exact World.cell?_setCell_same _ _ _ (h.2 k hk).1
  · rw [upd_other c, World.cell?_setCell_other]
    · exact (h.2 k hk).1
    · intro e; exact c (Addr.mk.inj e).2.1.symm
theorem Own.congr {w : World} {b n : Nat} {f g : Nat → Int} (h : Own w b n f) (e : ∀ k, k < n → f k = g k) : Own w b n g :=
  ⟨h.1, fun k hk => by rw [← e k hk]; exact h.2 k hk⟩

theorem Try.info3 : (Try.prog.info? 3).map (fun i => (i.zero, i.size, i.bytes)) = some (some (.int .i64 0), 1, 8) := by kernel_rfl
theorem Try.size3 : (Try.prog.info? 3).map (·.size) = some 1 := by kernel_rfl

/-- The first n of f, as cells. -/
def cellsOf (f : Nat → Int) (n : Nat) : List Value := (List.range n).map fun j => .int .i64 (f j)
theorem cellsOf_len (f : Nat → Int) (n : Nat) : (cellsOf f n).length = n := by simp [cellsOf]
theorem cellsOf_get (f : Nat → Int) (n j : Nat) (h : j < n) : (cellsOf f n)[j]? = some (.int .i64 (f j)) := by simp [cellsOf, h]
theorem cells_at {w : World} {x : Addr} {n : Nat} {f : Nat → Int} (h : Row w (some x) n f) : ∀ j u, (cellsOf f n)[j]? = some u → w.cell? (x.add j) = some u := by
  intro j u hj
  have hl : j < n := by
    by_cases c : j < n
    · exact c
    · rw [List.getElem?_eq_none (by simp [cellsOf]; omega)] at hj; cases hj
  rw [cellsOf_get f n j hl] at hj
  obtain ⟨b, off, e, _, hc⟩ := h (by omega)
  cases e
  rw [Go.WideShapes.add_plain, hc j hl]
  exact hj
theorem cells_one (f : Nat → Int) (n : Nat) : ∀ u ∈ cellsOf f n, u.oneCell' = true := by
  intro u hu
  simp [cellsOf] at hu
  obtain ⟨j, _, rfl⟩ := hu
  rfl

theorem Own.owned {w : World} {base g n cap : Nat} {f : Nat → Int} (h : w.ownsRow base 3 1 (.slice (some ⟨g, 0, none⟩) n cap) n (cellsOf f n)) : Own w g n f :=
  ⟨(h.lt g rfl).2, fun k hk => ⟨by rw [h.cellAt k (by omega), cellsOf_get f n k hk], h.frozenAt k⟩⟩

/-- A slice that was made: its cells. -/
theorem made_cells {w : World} {base n g : Nat} {xs : List Value} (h : w.ownsRow base 3 1 (.slice (some ⟨g, 0, none⟩) n n) n xs) : ∃ cur : List Value, w.heap[g]? = some (.cells cur.toArray 3 (0, 0)) ∧ cur.length = n := by
  rcases h.2 with ⟨h', _⟩ | ⟨g', cap', cur, h', _, hg, _, _, hs, _⟩
  · simp at h'
  · simp at h'
    obtain ⟨rfl, rfl⟩ := h'
    exact ⟨cur.toList, by simpa using hg, by simpa using hs⟩

theorem copied {w : World} {g n : Nat} {f : Nat → Int} {cur : List Value} (hl : cur.length = n) (hn : n ≤ 64) (h : w.heap[g]? = some (.cells (splice cur 0 (cellsOf f n)).toArray 3 (0, 0))) : Own w g n f := by
  have e : splice cur 0 (cellsOf f n) = cellsOf f n := by
    unfold splice
    rw [List.drop_eq_nil_of_le (by rw [cellsOf_len]; omega)]; simp
  rw [e] at h
  have : w.ownsRow 0 3 1 (.slice (some ⟨g, 0, none⟩) n n) n (cellsOf f n) :=
    ⟨by simp [cellsOf_len], .inr ⟨g, n, _, rfl, Nat.zero_le _, h, Nat.le_refl _, by unfold maxLen; omega, by simp [cellsOf_len], by simp only [Nat.mul_one]; rw [List.take_of_length_le (by simp [cellsOf_len])]⟩⟩
  exact Own.owned this

theorem row_pos {w : World} {a : Option Addr} {n : Nat} {f : Nat → Int} (h : Row w a n f) (hn : 0 < (cellsOf f n).length) : ∃ ad, a = some ad ∧ ∀ j v, (cellsOf f n)[j]? = some v → w.cell? (ad.add j) = some v := by
  rw [cellsOf_len] at hn
  obtain ⟨b, off, rfl, hb, hc⟩ := id h hn
  exact ⟨_, rfl, cells_at h⟩

theorem spread_no (total : Int) (a b d : Option Addr) (n m l c1 c2 c3 : Nat) (lo hi want : Nat → Int) (w : World) (r1 : Row w a n lo) (r2 : Row w b m hi) (r3 : Row w d l want) (h : (refI total n m l lo hi want == 0) = false) :
    Calls Try.prog 14 #[.int .i64 total, .slice a n c1, .slice b m c2, .slice d l c3] w fun e w' => e = .returned (.tuple #[.slice none 0 0, .int .i64 (refI total n m l lo hi want)]) ∧ Below w.heap.size w w' := by
  have h' : (refI total n m l lo hi want != 0) = true := by simpa using h
  go_enter Try.func14, Try.ntmps14
  go_wp2_with (go_at_call 21; refine (refusal_any _ _ _ _ _ _ _ _ _ _ lo hi want _ r1 r2 r3).mono ?_; rintro e w' ⟨rfl, hw⟩)
  go_ret2
  exact ⟨rfl, hw⟩

set_option maxRecDepth 20000 in
set_option maxHeartbeats 1000000 in
theorem spread_yes (total : Int) (a b d : Option Addr) (n c1 c2 c3 : Nat) (lo hi want : Nat → Int) (w : World) (r1 : Row w a n lo) (r2 : Row w b n hi) (r3 : Row w d n want) (hf : Fits total n lo hi want) :
    Calls Try.prog 14 #[.int .i64 total, .slice a n c1, .slice b n c2, .slice d n c3] w fun e w' => ∃ g, e = .returned (.tuple #[.slice (some ⟨g, 0, none⟩) n n, .int .i64 0]) ∧ w.heap.size ≤ g ∧
      Own w' g n (part total n lo hi want) ∧ Below w.heap.size w w' := by
  obtain ⟨i0, hi0, hz0, hz1, hz2⟩ := info_parts Try.info3
  have R := refusal_any total a b d n n n c1 c2 c3 lo hi want w r1 r2 r3
  rw [hf.zero] at R
  have hlen := hf.len
  have hl := hf.low
  have hh := hf.high
  have hle := hf.least
  have hs := (sumTo_le (n := n) (f := lo) (M := 4096) (fun k hk => by have := hf.each k hk; omega) n (Nat.le_refl _)).1
  go_enter Try.func14, Try.ntmps14
  go_wp2_with fail
  go_at_call 21
  refine R.mono ?_
  rintro e w0 ⟨rfl, hb0⟩
  have q1 := r1.carry hb0
  have hs0 := hb0.size
  clear R r1
  go_wp2_with (first
    | (at_make; refine wpList_make_full _ rfl (.tmp 21) (.tmp 21) 25 rfl w.heap.size 3 i0 (.int .i64 0) 1 Try.underlying25 hi0 hz0 hz1 _ _ _ _ n rfl rfl rfl rfl (by rw [hz2]; omega) (by unfold maxLen; omega) hs0 ?_; intro w1 hown1 hgrow1; have hs1 := hgrow1.size; obtain ⟨cur, hcur, hcl⟩ := made_cells hown1; have b1 : Below w0.heap.size w0 w1 := (Below.refl _ _).grown hgrow1 (Nat.le_refl _) (by simp); have q1' := q1.carry b1)
    | (refine wpList_copy_splice rfl (.tmp 23) (.tmp 24) 25 25 rfl 3 Try.underlying25 Try.size3 _ _ _ _ _ _ rfl rfl w0.heap.size 0 cur 3 hcur (cellsOf lo n) (by rw [cellsOf_len]; simp) (fun h => ⟨rfl, row_pos q1' h⟩) (by rw [cellsOf_len]; omega) (cells_one lo n) w0.heap.size w0 b1 (Nat.le_refl _) ?_; intro w2 hw2 b2; have own := copied hcl (by omega) hw2.out; have q1'' := q1.carry b2)
    | (go_at_call 22; refine (sum_any _ _ _ lo _ q1'' (by omega) (fun k hk => by have := hf.each k hk; omega)).mono ?_; rintro e w' ⟨rfl, hw⟩; obtain rfl := hw.symm))
  have hb2 : Below w.heap.size w w2 := hb0.trans (b2.mono hs0)
  have hg1 : w0.heap.size < w2.heap.size := own.1
  clear hown1 hgrow1 hcur hw2 q1 q1' q1'' b1 hb0 hs1
  have hsz2 : w.heap.size ≤ w0.heap.size := hs0
  generalize w0.heap.size = g at *
  clear b2
  go_loopw [30] (fun i wr => ∃ k : Nat, (k : Int) ≤ total - sumTo lo n ∧ i = .int .i64 k ∧ Own wr g n (give n hi want lo k) ∧ Below w.heap.size w wr) (fun i _ => (total - sumTo lo n).toNat - (intOf i).toNat)
  case atStart => exact ⟨0, by omega, rfl, own, hb2⟩
  case round =>
    obtain ⟨k, hk, rfl, p1, p2⟩ := hrel
    have p3 := r2.carry p2
    have p4 := r3.carry p2
    by_cases hlt : (k : Int) < total - sumTo lo n
    · have hd := hf.done k hk
      obtain ⟨j, e, hbest⟩ := hf.next k hlt
      have hj : j < n := hbest.2.1
      have N := next_any _ _ _ n n c2 c3 _ hi want wr p1.row p3 p4 (by omega) (fun i hi' => by have := hd.between i hi'; have := hf.each i hi'; omega) (fun i hi' => by have := hf.each i hi'; omega)
      rw [e] at N
      have hv := hd.between j hj
      have hv2 := hf.each j hj
      have e2 : upd (give n hi want lo k) j (give n hi want lo k j + 1) = give n hi want lo (k + 1) := by simp only [give]; rw [e]; rfl
      have hg : w.heap.size ≤ g := hsz2
      have j1 : (j : Int) < (n : Int) := by omega
      obtain ⟨hv1, hv1'⟩ := hv
      obtain ⟨hv3, hv4, hv5, hv6, hv7⟩ := hv2
      clear hd hbest e own r2 r3 hb2 hf
      go_wp2_with fail
      go_at_call 23
      refine N.mono ?_
      rintro e w3 ⟨rfl, b3⟩
      have o3 := p1.carry b3
      have s3 := o3.store j (give n hi want lo k j + 1) hj
      rw [e2] at s3
      have t3 : Below w.heap.size w w3 := p2.trans (b3.mono p2.size)
      have t4 := t3.setCell (p := ⟨g, j, none⟩) hg (.int .i64 (give n hi want lo k j + 1))
      obtain ⟨c4, f4⟩ := o3.2 j hj
      go_wp2
      go_roundw
      case rel => exact ⟨k + 1, by omega, by go_num, s3, t4⟩
      case measure => simp [intOf]; omega
    · have ek : (total - sumTo lo n).toNat = k := by omega
      have o4 : Own wr g n (part total n lo hi want) := by unfold part; rw [ek]; exact p1
      clear hf own r2 r3 hb2 p1 p3 p4
      go_wp2
      go_ret2
      exact ⟨_, rfl, hsz2, o4, p2⟩
end Go.Proofs.Ytcombbkhdnipkaa
