/-
  What 'plus', 'Times', 'Less', 'Capped' of the reference answer: numbers of two words added, made by doubling, and held against each other. Conditions: the arguments are words of 64 bits, and the sum is a number of two words.
-/
import Derived.Test.YtjpjifoanadbdaaWalkE
import Derived.Below
namespace Go.Proofs.Ytjpjifoanadbdaa
open Go.RowKit Go.Lib

/-- The world has at most new blocks: of what was there nothing turns. -/
structure Gr (w w' : World) : Prop where
  grown : Grown w w'
  below : Below w.heap.size w w'

theorem Gr.refl (w : World) : Gr w w := ⟨Grown.refl _, Below.refl _ _⟩
theorem Gr.trans {a b c : World} (h : Gr a b) (k : Gr b c) : Gr a c := ⟨grown_trans h.grown k.grown, h.below.trans (k.below.mono h.below.size)⟩
theorem Gr.alloc {a w : World} (h : Gr a w) (c : Array Value) (t : TypeId) : Gr a (w.alloc (.cells c t)) := ⟨h.grown.alloc _ _, h.below.alloc h.below.size _⟩
theorem Gr.setCell {a w : World} (h : Gr a w) {p : Addr} (hp : a.heap.size ≤ p.block) (v : Value) : Gr a (w.setCell p v) := ⟨h.grown.setCell hp v, h.below.setCell hp v⟩
theorem Gr.drew {a w : World} (h : Gr a w) : Gr a w.drew := ⟨h.grown.drew, h.below.drew⟩
theorem Gr.drewN {a w : World} (h : Gr a w) (n : Nat) : Gr a (w.drewN n) := ⟨h.grown, ⟨h.below.os, h.below.tape, h.below.output, h.below.size, h.below.block⟩⟩
theorem Gr.size {a w : World} (h : Gr a w) : a.heap.size ≤ w.heap.size := h.below.size
theorem Gr.cells {a w : World} (h : Gr a w) : (∀ b o, b < a.heap.size → w.cell? ⟨b, o, none⟩ = a.cell? ⟨b, o, none⟩) ∧ (∀ b o, b < a.heap.size → w.frozen? ⟨b, o, none⟩ = a.frozen? ⟨b, o, none⟩) :=
  ⟨fun b o hb => h.below.cell (p := ⟨b, o, none⟩) hb, fun b o hb => h.below.frozen (p := ⟨b, o, none⟩) hb⟩

theorem Gr.carry {a w : World} (h : Gr a w) {b o : Nat} {v : Value} (hb : b < a.heap.size) (c : a.cell? ⟨b, o, none⟩ = some v) : w.cell? ⟨b, o, none⟩ = some v := (h.below.cell (p := ⟨b, o, none⟩) hb).trans c
theorem Gr.carryF {a w : World} (h : Gr a w) {b o : Nat} (hb : b < a.heap.size) (c : a.frozen? ⟨b, o, none⟩ = false) : w.frozen? ⟨b, o, none⟩ = false := (h.below.frozen (p := ⟨b, o, none⟩) hb).trans c

/-- What 'Times' holds in memory between two rounds: the answer's place, and the sum so far. -/
def Held (B : Nat) (w : World) (x : Int) : Prop := B + 1 < w.heap.size ∧
      (w.cell? ⟨B, 0, none⟩ = some (.int .u64 0) ∧ w.cell? ⟨B, 1, none⟩ = some (.int .u64 0) ∧
      w.frozen? ⟨B, 0, none⟩ = false ∧ w.frozen? ⟨B, 1, none⟩ = false ∧ w.frozen? ⟨B + 1, 0, none⟩ = false ∧ w.frozen? ⟨B + 1, 1, none⟩ = false) ∧
      w.cell? ⟨B + 1, 0, none⟩ = some (.int .u64 (x / 18446744073709551616)) ∧ w.cell? ⟨B + 1, 1, none⟩ = some (.int .u64 (x % 18446744073709551616))

theorem Held.grow {B : Nat} {w w' : World} {x : Int} (h : Held B w x) (g : Gr w w') : Held B w' x := by
  obtain ⟨hz, ⟨c1, c2, f1, f2, f3, f4⟩, c3, c4⟩ := h
  exact ⟨Nat.lt_of_lt_of_le hz g.size, ⟨g.carry (by omega) c1, g.carry (by omega) c2, g.carryF (by omega) f1, g.carryF (by omega) f2, g.carryF (by omega) f3, g.carryF (by omega) f4⟩, g.carry (by omega) c3, g.carry (by omega) c4⟩

theorem Held.store {B : Nat} {w : World} {x : Int} (h : Held B w x) (y : Int) :
    Held B ((w.setCell ⟨B + 1, 0, none⟩ (.int .u64 (y / 18446744073709551616))).setCell ⟨B + 1, 1, none⟩ (.int .u64 (y % 18446744073709551616))) y := by
  obtain ⟨hz, ⟨c1, c2, f1, f2, f3, f4⟩, c3, c4⟩ := h
  exact ⟨by simpa [go_sem] using hz, ⟨by simp [go_sem, c1], by simp [go_sem, c2], by simp [go_sem, f1], by simp [go_sem, f2], by simp [go_sem, f3], by simp [go_sem, f4]⟩, by simp [go_sem, c3], by simp [go_sem, c4]⟩

/-- The two words of a number of 128 bits. -/
def hiW (x : Int) : Int := x / 18446744073709551616
def loW (x : Int) : Int := x % 18446744073709551616
/-- A number of 128 bits. -/
def Two (x : Int) : Prop := 0 ≤ x ∧ x < 340282366920938463463374607431768211456

theorem two_ex (x : Int) (h : Two x) : ∃ a b, hiW x = a ∧ loW x = b ∧ x = a * 18446744073709551616 + b ∧ 0 ≤ a ∧ a < 18446744073709551616 ∧ 0 ≤ b ∧ b < 18446744073709551616 := by
  obtain ⟨h1, h2⟩ := h
  exact ⟨_, _, rfl, rfl, by unfold hiW loW; omega, by unfold hiW; omega, by unfold hiW; omega, by unfold loW; omega, by unfold loW; omega⟩
theorem hiW_of {x a b : Int} (e : x = a * 18446744073709551616 + b) (h0 : 0 ≤ b) (h1 : b < 18446744073709551616) : hiW x = a := by unfold hiW; omega
theorem loW_of {x a b : Int} (e : x = a * 18446744073709551616 + b) (h0 : 0 ≤ b) (h1 : b < 18446744073709551616) : loW x = b := by unfold loW; omega

set_option maxHeartbeats 400000 in
theorem plus_any (x y : Int) (w : World) (hx : Two x) (hy : Two y) (hs : Two (x + y)) :
    Calls Try.prog 28 #[.agg #[.int .u64 (hiW x), .int .u64 (loW x)], .agg #[.int .u64 (hiW y), .int .u64 (loW y)]] w fun e w' =>
      e = .returned (.agg #[.int .u64 (hiW (x + y)), .int .u64 (loW (x + y))]) ∧ Gr w w' := by
  obtain ⟨ah, al, e1, e2, ex, a1, a2, a3, a4⟩ := two_ex x hx
  obtain ⟨bh, bl, e3, e4, ey, b1, b2, b3, b4⟩ := two_ex y hy
  obtain ⟨s1, s2⟩ := hs
  rw [e1, e2, e3, e4]
  by_cases hc : al + bl < 18446744073709551616
  · have e5 : hiW (x + y) = ah + bh := hiW_of (b := al + bl) (by omega) (by omega) (by omega)
    have e6 : loW (x + y) = al + bl := loW_of (a := ah + bh) (by omega) (by omega) (by omega)
    have c1 : ah + bh < 18446744073709551616 := by omega
    rw [e5, e6]
    clear e1 e2 e3 e4 e5 e6 ex ey s1 s2 hx hy
    go_enter Try.func28, Try.ntmps28
    go_wp2
    exact bodyPost_ret (v := .agg #[.int .u64 (ah + bh), .int .u64 (al + bl)]) (by simp [results, Try.results28, go_sem]) rfl ⟨rfl, ((((Gr.refl w).alloc _ _).alloc _ _).alloc _ _).alloc _ _⟩
  · obtain ⟨l, hl⟩ : ∃ l, l = al + bl - 18446744073709551616 := ⟨_, rfl⟩
    have e5 : hiW (x + y) = ah + bh + 1 := hiW_of (b := l) (by omega) (by omega) (by omega)
    have e6 : loW (x + y) = l := loW_of (a := ah + bh + 1) (by omega) (by omega) (by omega)
    have c1 : ah + bh + 1 < 18446744073709551616 := by omega
    have hwr : IntKind.u64.wrap (al + bl) = l := by rw [IntKind.wrap_u64]; omega
    have hlt : l < al := by omega
    rw [e5, e6]
    clear e1 e2 e3 e4 e5 e6 ex ey s1 s2 hx hy hl hc
    go_enter Try.func28, Try.ntmps28
    go_wp2
    exact bodyPost_ret (v := .agg #[.int .u64 (ah + bh + 1), .int .u64 l]) (by simp [results, Try.results28, go_sem]) rfl ⟨rfl, ((((Gr.refl w).alloc _ _).alloc _ _).alloc _ _).alloc _ _⟩

/-- The product's part that the highest digits of b make. -/
def part (a b : Int) (k : Nat) : Int := a * (b / 2 ^ k)

theorem part_zero (a b : Int) : part a b 0 = a * b := by unfold part; simp
theorem part_top (a b : Int) (h : Word b) : part a b 64 = 0 := by
  obtain ⟨h1, h2⟩ := h
  unfold part; rw [Int.ediv_eq_zero_of_lt h1 (by simpa using h2), Int.mul_zero]
theorem part_two (a b : Int) (k : Nat) (ha : Word a) (hb : Word b) : Two (part a b k) := by
  have hp : (0 : Int) < 2 ^ k := Int.pow_pos (by decide)
  have h1 : Word (b / 2 ^ k) := by
    obtain ⟨b1, b2⟩ := hb
    exact ⟨Int.ediv_nonneg b1 (Int.le_of_lt hp), Int.lt_of_le_of_lt (Int.ediv_le_self _ b1) b2⟩
  exact prod_lt ha h1
theorem part_step (a b : Int) (j : Nat) : part a b j = part a b (j + 1) + part a b (j + 1) + a * (b / 2 ^ j % 2) := by
  unfold part
  have e : b / 2 ^ (j + 1) = b / 2 ^ j / 2 := by
    rw [Int.pow_succ, Int.ediv_ediv_of_nonneg (Int.le_of_lt (Int.pow_pos (by decide)))]
  rw [e]
  generalize b / 2 ^ j = q
  have h : q = q / 2 + q / 2 + q % 2 := by omega
  rw [← Int.mul_add, ← Int.mul_add, ← h]
theorem low_two {a : Int} (h : Word a) : Two a := by obtain ⟨h1, h2⟩ := h; exact ⟨h1, by omega⟩
theorem hiW_low {a : Int} (h : Word a) : hiW a = 0 := by obtain ⟨h1, h2⟩ := h; unfold hiW; omega
theorem loW_low {a : Int} (h : Word a) : loW a = a := by obtain ⟨h1, h2⟩ := h; unfold loW; omega

theorem plus_low (x y : Int) (w : World) (hx : Two x) (hy : Word y) (hs : Two (x + y)) :
    Calls Try.prog 28 #[.agg #[.int .u64 (hiW x), .int .u64 (loW x)], .agg #[.int .u64 0, .int .u64 y]] w fun e w' =>
      e = .returned (.agg #[.int .u64 (hiW (x + y)), .int .u64 (loW (x + y))]) ∧ Gr w w' := by
  have h := plus_any x y w hx (low_two hy) hs
  rw [hiW_low hy, loW_low hy] at h
  exact h

set_option maxHeartbeats 1000000 in
theorem times_any (a b : Int) (w : World) (h1 : Word a) (h2 : Word b) :
    Calls Try.prog 23 #[.int .u64 a, .int .u64 b] w fun e w' =>
      e = .returned (.agg #[.int .u64 (hiW (a * b)), .int .u64 (loW (a * b))]) ∧ Gr w w' := by
  obtain ⟨p1, p2⟩ := id h2
  go_enter Try.func23, Try.ntmps23
  go_wp2
  go_loopw [6] (fun i wr => ∃ k : Nat, k ≤ 64 ∧ i = .int .i64 ((k : Int) - 1) ∧ Gr w wr ∧ Held w.heap.size wr (part a b k)) (fun i _ => (intOf i + 1).toNat)
  case atStart =>
    refine ⟨64, by omega, rfl, ((Gr.refl w).alloc _ _).alloc _ _, ?_⟩
    rw [part_top a b h2]
    refine ⟨by simp, ⟨?_, ?_, ?_, ?_, ?_, ?_⟩, ?_, ?_⟩ <;> simp [go_sem]
  case round =>
    obtain ⟨k, hk, rfl, hg, hh⟩ := hrel
    rcases k with _ | j
    · rw [part_zero] at hh
      obtain ⟨hz, ⟨c1, c2, f1, f2, f3, f4⟩, c3, c4⟩ := id hh
      go_wp2
      refine bodyPost_ret (v := .agg #[.int .u64 (hiW (a * b)), .int .u64 (loW (a * b))]) (by simp [results, Try.results23, go_sem, c1, c2, hiW, loW]) rfl ⟨rfl, ?_⟩
      exact (hg.setCell (by simp) _).setCell (by simp) _
    · have ej : ((j + 1 : Nat) : Int) - 1 = (j : Int) := by omega
      rw [ej]
      have hx := part_two a b (j + 1) h1 h2
      have hn := part_two a b j h1 h2
      have hst := part_step a b j
      generalize part a b (j + 1) = x at *
      have hq0 : 0 ≤ b / 2 ^ j := Int.ediv_nonneg p1 (Int.le_of_lt (Int.pow_pos (by decide)))
      have hq1 : b / 2 ^ j < 18446744073709551616 := Int.lt_of_le_of_lt (Int.ediv_le_self _ p1) p2
      have hbit : b / 2 ^ j % 2 = 1 ∨ b / 2 ^ j % 2 = 0 := by omega
      rcases hbit with hbit | hbit
      · rw [hbit, Int.mul_one] at hst
        have hxx : Two (x + x) := by
          obtain ⟨x1, x2⟩ := hx; obtain ⟨n1, n2⟩ := hn; obtain ⟨a1, a2⟩ := h1; exact ⟨by omega, by omega⟩
        have hxa : Two (x + x + a) := by rw [← hst]; exact hn
        have HS : Hid (part a b j = x + x + a) := hst
        clear hst ej hn
        have hh0 := hh
        obtain ⟨hz, ⟨c1, c2, f1, f2, f3, f4⟩, c3, c4⟩ := hh0
        go_wp2_with fail
        go_at_call 28
        refine (plus_any x x _ hx hx hxx).mono ?_
        rintro e w1 ⟨rfl, hg1⟩
        clear hz c1 c2 f1 f2 f3 f4 c3 c4
        have hh1 := hh.grow hg1
        have hh0 := hh1
        obtain ⟨hz, ⟨c1, c2, f1, f2, f3, f4⟩, c3, c4⟩ := hh0
        go_wp2_with fail
        clear hz c1 c2 f1 f2 f3 f4 c3 c4
        go_at_call 28
        refine (plus_low (x + x) a _ hxx h1 hxa).mono ?_
        rintro e w2 ⟨rfl, hg2⟩
        have hh2 := (hh1.store (x + x)).grow hg2
        have hh0 := hh2
        obtain ⟨hz, ⟨c1, c2, f1, f2, f3, f4⟩, c3, c4⟩ := hh0
        go_wp2_with fail
        go_roundw
        case rel =>
          rw [← HS.out]
          exact ⟨j, by omega, rfl, ((((((hg.trans hg1).setCell (by simp) _).setCell (by simp) _).trans hg2).setCell (by simp) _).setCell (by simp) _), hh2.store _⟩
        case measure => simp [intOf]
      · rw [hbit, Int.mul_zero, Int.add_zero] at hst
        have hxx : Two (x + x) := by rw [← hst]; exact hn
        have HS : Hid (part a b j = x + x) := hst
        have hb0 : (b / 2 ^ j % 2 == 1) = false := by rw [hbit]; rfl
        clear hst ej hn hbit
        have hh0 := hh
        obtain ⟨hz, ⟨c1, c2, f1, f2, f3, f4⟩, c3, c4⟩ := hh0
        go_wp2_with fail
        go_at_call 28
        refine (plus_any x x _ hx hx hxx).mono ?_
        rintro e w1 ⟨rfl, hg1⟩
        clear hz c1 c2 f1 f2 f3 f4 c3 c4
        have hh1 := hh.grow hg1
        have hh0 := hh1
        obtain ⟨hz, ⟨c1, c2, f1, f2, f3, f4⟩, c3, c4⟩ := hh0
        go_wp2_with fail
        go_roundw
        case rel =>
          rw [← HS.out]
          exact ⟨j, by omega, rfl, (((hg.trans hg1).setCell (by simp) _).setCell (by simp) _), hh1.store _⟩
        case measure => simp [intOf]
end Go.Proofs.Ytjpjifoanadbdaa
