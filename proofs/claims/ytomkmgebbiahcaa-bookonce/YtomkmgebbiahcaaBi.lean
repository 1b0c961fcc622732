/-
  The first entry of an ID, by the program: slices.IndexFunc, place; isPhase. Conditions: the book lies in memory, and is short.
-/
import Derived.Test.YtomkmgebbiahcaaBc
import Derived.Shelf.Abstract
namespace Go.Proofs.Ytomkmgebbiahcaa
open Go.RowKit

/-- Where the first one of that ID stands; -1, if there is none. -/
def ixI (d : Int) (L : List En) : Int := if fB d L = true then (fI d L : Int) else -1
theorem ixI_at {d : Int} {L : List En} {k : Nat} (h : k < L.length) (e : (ge L k).id = d) (hn : ∀ j, j < k → (ge L j).id ≠ d) : ixI d L = (k : Int) := by
  have := fI_is h hn e
  unfold ixI fB
  rw [this, decide_eq_true h, if_pos rfl]
theorem ixI_none {d : Int} {L : List En} (hn : ∀ j, j < L.length → (ge L j).id ≠ d) : ixI d L = -1 := by
  have := fI_none hn
  unfold ixI fB
  rw [this, decide_eq_false (Nat.lt_irrefl _)]
  rfl

theorem ofI_ok (t : En) (id : Int) (g : Nat) (w : World) (hg : Blk w g 3 #[.int .i64 id]) :
    Calls Try.prog 21 #[.agg #[.int .i64 t.id, .int .i64 t.ph, .string t.lv], .pointer (some ⟨g, 0, none⟩)] w fun e w' => e = .returned (.bool (t.id == id)) ∧ Below w.heap.size w w' := by
  obtain ⟨w1, hw1⟩ : ∃ w1, w1 = w.alloc (.cells #[.int .i64 t.id, .int .i64 t.ph, .string t.lv] 24) := ⟨_, rfl⟩
  have B : Hd (Below w.heap.size w w1) := ⟨by rw [hw1]; exact alloc_below _ _⟩
  have N1 : Blk w1 w.heap.size 24 (enA t) := by rw [hw1]; exact Blk.new _ _ _
  have G1 : Blk w1 g 3 #[.int .i64 id] := by rw [hw1]; exact hg.alloc _
  obtain ⟨⟨c0, c1, c2⟩, -⟩ := N1.three
  have g0 := G1.cellv (v := .int .i64 id) 0 rfl
  clear N1 G1 hg c1 c2
  go_enter Try.func21, Try.ntmps21
  go_upto_region 1 with fail
  rw [← hw1]
  clear hw1
  go_wp2
  go_ret; exact ⟨rfl, B.out⟩

set_option maxRecDepth 20000 in
set_option maxHeartbeats 1000000 in
theorem index_ok (a : Option Addr) (c : Nat) (L : List En) (id : Int) (g : Nat) (w : World) (h : EnR w a L) (hl : L.length ≤ 4000) (hg : Blk w g 3 #[.int .i64 id]) :
    Calls Try.prog 20 #[.slice a L.length c, .func (.func 21) #[] #[.pointer (some ⟨g, 0, none⟩)]] w fun e w' => e = .returned (.int .i64 (ixI id L)) ∧ Below w.heap.size w w' := by
  have eg : ∀ args w, (callFunc 21 args).run Try.prog w = .ok (.enter 21 args) w := enters_of Try.func21 (by kernel_rfl) rfl
  have H : Hd (∀ W, Below w.heap.size w W → EnR W a L ∧ Blk W g 3 #[.int .i64 id]) := ⟨fun W b => ⟨h.carry b, hg.kept (Kept.of_below b (fun _ => False)) (fun h => h)⟩⟩
  obtain ⟨n, hn⟩ : ∃ n, L.length = n := ⟨_, rfl⟩
  have HL : Hd (L.length = n) := ⟨hn⟩
  have HX : Hd ((∀ k, k < n → (ge L k).id = id → (∀ j, j < k → (ge L j).id ≠ id) → ixI id L = (k : Int)) ∧ ((∀ j, j < n → (ge L j).id ≠ id) → ixI id L = -1)) := ⟨fun k hk e hno => ixI_at (by omega) e hno, fun hno => ixI_none (fun j hj => hno j (by omega))⟩
  rw [hn] at hl ⊢
  clear hn h hg
  go_enter Try.func20, Try.ntmps20
  go_wp2_with fail
  go_loopw [8] (fun i wr => ∃ k : Nat, k ≤ n ∧ i = .int .i64 k ∧ Hd (∀ j, j < k → (ge L j).id ≠ id) ∧ Below w.heap.size w wr) (fun i _ => n - (intOf i).toNat)
  case atStart => exact ⟨0, Nat.zero_le _, rfl, ⟨fun j h => absurd h (Nat.not_lt_zero _)⟩, Below.refl _ _⟩
  case round =>
    obtain ⟨k, hk, rfl, hno, hb⟩ := hrel
    by_cases hlt : k < n
    · obtain ⟨hR, hG⟩ := H.out wr hb
      obtain ⟨b, off, rfl, -, d0, d1, d2⟩ := hR.at (k := k) (by rw [HL.out]; exact hlt)
      have I := ofI_ok (ge L k) id g wr hG
      have BB : Hd (Below w.heap.size w wr) := ⟨hb⟩
      clear hR hG hb
      have HT : Hd ((ge L k).id = id → ixI id L = (k : Int)) := ⟨fun e => HX.out.1 k hlt e hno.out⟩
      have HF : Hd ((ge L k).id ≠ id → ∀ j, j < k + 1 → (ge L j).id ≠ id) := ⟨fun e j hj => by
        rcases Nat.lt_or_eq_of_le (Nat.le_of_lt_succ hj) with h1 | h1
        · exact hno.out j h1
        · subst h1; exact e⟩
      clear hno
      by_cases e : (ge L k).id = id
      · have A : Hd (ixI id L = (k : Int)) := ⟨HT.out e⟩
        rw [show ((ge L k).id == id) = true from by simpa using e] at I
        clear HT HF
        generalize ge L k = z at *
        obtain ⟨z0, z1, z2⟩ := z
        simp only at d0 d1 d2 I
        clear e
        go_wp2_with (go_at_fn 21; refine I.mono ?_; rintro e w2 ⟨rfl, h2⟩)
        go_ret
        exact ⟨by rw [A.out]; rfl, BB.out.trans (h2.mono BB.out.size)⟩
      · have A : Hd (∀ j, j < k + 1 → (ge L j).id ≠ id) := ⟨HF.out e⟩
        rw [show ((ge L k).id == id) = false from by simpa using e] at I
        clear HT HF
        generalize ge L k = z at *
        obtain ⟨z0, z1, z2⟩ := z
        simp only at d0 d1 d2 I
        clear e
        go_wp2_with (go_at_fn 21; refine I.mono ?_; rintro e w2 ⟨rfl, h2⟩)
        go_roundw
        case rel => exact ⟨k + 1, by omega, by go_num, A, BB.out.trans (h2.mono BB.out.size)⟩
        case measure => simp [intOf]; omega
    · obtain rfl : k = n := by omega
      have A : Hd (ixI id L = -1) := ⟨HX.out.2 hno.out⟩
      clear hno
      go_wp2_with fail
      go_ret
      exact ⟨by rw [A.out]; rfl, hb⟩

set_option maxHeartbeats 400000 in
/-- The place of the first one of that ID. -/
theorem place_ok (a : Option Addr) (c : Nat) (L : List En) (id : Int) (w : World) (h : EnR w a L) (hl : L.length ≤ 4000) :
    Calls Try.prog 17 #[.slice a L.length c, .int .i64 id] w fun e w' => e = .returned (.int .i64 (ixI id L)) ∧ Below w.heap.size w w' := by
  obtain ⟨w1, hw1⟩ : ∃ w1, w1 = w.alloc (.cells #[.int .i64 id] 3) := ⟨_, rfl⟩
  have B : Hd (Below w.heap.size w w1) := ⟨by rw [hw1]; exact alloc_below _ _⟩
  have I := index_ok a c L id w.heap.size w1 (h.carry B.out) hl (by rw [hw1]; exact Blk.new _ _ _)
  clear h hl
  go_enter Try.func17, Try.ntmps17
  go_upto_region 1 with fail
  rw [← hw1]
  clear hw1
  go_wp2_with (go_at_call 20; refine I.mono ?_; rintro e w2 ⟨rfl, h2⟩)
  go_ret
  exact ⟨rfl, B.out.trans (h2.mono B.out.size)⟩

def isP (p : Int) : Bool := decide (1 ≤ p) && decide (p ≤ 3)
/-- Is it one of the three? -/
theorem phase_ok (p : Int) (w : World) : Calls Try.prog 16 #[.int .i64 p] w fun e w' => e = .returned (.bool (isP p)) ∧ w' = w := by
  unfold isP
  go_enter Try.func16, Try.ntmps16
  go_wp2
  all_goals (go_ret; refine ⟨?_, rfl⟩; simp [*]; try omega)
end Go.Proofs.Ytomkmgebbiahcaa
