/-
  What 'quotas' and 'Split' of the program answer, for every total and all shares. Conditions: the shares lie in memory; of 'quotas' besides that nothing is refused.
-/
import Derived.Test.YtcombbkhdnipkaaBMathB
import Derived.OwnWalk
namespace Go.Proofs.Ytcombbkhdnipkaa.Bo
open Go.RowKit

/-- A block of n numbers that may be written. -/
def Own (w : World) (b n : Nat) (f : Nat → Int) : Prop :=
  b < w.heap.size ∧ ∀ k, k < n → w.cell? ⟨b, k, none⟩ = some (.int .i64 (f k)) ∧ w.frozen? ⟨b, k, none⟩ = false

theorem Own.row {w : World} {b n : Nat} {f : Nat → Int} (h : Own w b n f) : Row w (some ⟨b, 0, none⟩) n f :=
  fun _ => ⟨b, 0, rfl, h.1, fun k hk => by rw [Nat.zero_add]; exact (h.2 k hk).1⟩
theorem Own.carry {w w' : World} {b n : Nat} {f : Nat → Int} (h : Own w b n f) (g : Below w.heap.size w w') : Own w' b n f :=
  ⟨Nat.lt_of_lt_of_le h.1 g.size, fun k hk => ⟨(g.cell (p := ⟨b, k, none⟩) h.1).trans (h.2 k hk).1, (g.frozen (p := ⟨b, k, none⟩) h.1).trans (h.2 k hk).2⟩⟩
theorem Own.store {w : World} {b n : Nat} {f : Nat → Int} (h : Own w b n f) (i : Nat) (x : Int) (hi : i < n) : Own (w.setCell ⟨b, i, none⟩ (.int .i64 x)) b n (upd f i x) := by
  refine ⟨by simpa using h.1, fun k hk => ⟨?_, by simpa using (h.2 k hk).2⟩⟩
  by_cases c : k = i
  · subst c
    rw [upd_same]
    exact World.cell?_setCell_same _ _ _ (h.2 k hk).1
  · rw [upd_other c, World.cell?_setCell_other]
    · exact (h.2 k hk).1
    · intro e; exact c (Addr.mk.inj e).2.1.symm
theorem Own.other {w : World} {b b' n : Nat} {f : Nat → Int} (h : Own w b n f) (hb : b' ≠ b) (i : Nat) (v : Value) : Own (w.setCell ⟨b', i, none⟩ v) b n f := by
  refine ⟨by simpa using h.1, fun k hk => ⟨?_, by simpa using (h.2 k hk).2⟩⟩
  rw [World.cell?_setCell_other]
  · exact (h.2 k hk).1
  · intro e; exact hb (Addr.mk.inj e).1
theorem Own.congr {w : World} {b n : Nat} {f g : Nat → Int} (h : Own w b n f) (e : ∀ k, k < n → f k = g k) : Own w b n g :=
  ⟨h.1, fun k hk => by rw [← e k hk]; exact h.2 k hk⟩

theorem Try.info3 : (Try.prog.info? 3).map (fun i => (i.zero, i.size, i.bytes)) = some (some (.int .i64 0), 1, 8) := by kernel_rfl

/-- A slice that was made: zeros. -/
theorem Own.made {w : World} {base n g : Nat} (h : w.ownsRow base 3 1 (.slice (some ⟨g, 0, none⟩) n n) n (madeCells (Value.cells (.int .i64 0)) (n * 1)).toList) : Own w g n (fun _ => 0) := by
  refine ⟨(h.lt g rfl).2, fun k hk => ⟨?_, h.frozenAt k⟩⟩
  rw [h.cellAt k (by omega)]
  simp [Value.cells, toList_madeCells_one, hk]

/-- The first k are done. -/
def upto (f : Nat → Int) (k : Nat) : Nat → Int := fun j => if j < k then f j else 0
theorem upto_succ (f : Nat → Int) (k : Nat) : upd (upto f k) k (f k) = upto f (k + 1) := by
  funext j
  unfold upd upto
  by_cases c : j = k
  · subst c; simp
  · rw [if_neg c]
    by_cases d : j < k
    · rw [if_pos d, if_pos (by omega)]
    · rw [if_neg d, if_neg (by omega)]

set_option maxHeartbeats 400000 in
theorem quotas_any (total : Int) (a : Option Addr) (n cap : Nat) (f : Nat → Int) (w : World) (hr : Row w a n f) (hf : Fits total n f) :
    Calls Try.prog 25 #[.int .i64 total, .slice a n cap] w fun e w' => ∃ b c, e = .returned (.tuple #[.slice (some ⟨b, 0, none⟩) n n, .slice (some ⟨c, 0, none⟩) n n]) ∧ w.heap.size ≤ b ∧ w.heap.size ≤ c ∧ b ≠ c ∧
      Own w' b n (quo total n f) ∧ Own w' c n (rem total n f) ∧ Below w.heap.size w w' := by
  obtain ⟨i0, hi, hz0, hz1, hz2⟩ := info_parts Try.info3
  have hlen := hf.len
  have hpos := hf.pos
  obtain ⟨sb, off, rfl, hb, hc⟩ := hr hpos
  go_enter Try.func25, Try.ntmps25
  go_wp2_with (first
    | (go_at_call 26; refine (sum_any _ _ _ f _ hr (by omega) hf.each).mono ?_; rintro e w' ⟨rfl, hw⟩; obtain rfl := hw.symm)
    | (at_make; refine wpList_make_full _ rfl (.tmp 12) (.tmp 12) 25 rfl w.heap.size 3 i0 (.int .i64 0) 1 Try.underlying25 hi hz0 hz1 _ _ _ _ n rfl rfl rfl rfl (by rw [hz2]; omega) (by unfold maxLen; omega) (Nat.le_refl _) ?_; intro w1 hown1 hgrow1; have hs1 := hgrow1.size)
    | (at_make; refine wpList_make_full _ rfl (.tmp 15) (.tmp 15) 25 rfl w.heap.size 3 i0 (.int .i64 0) 1 Try.underlying25 hi hz0 hz1 _ _ _ _ n rfl rfl rfl rfl (by rw [hz2]; omega) (by unfold maxLen; omega) hs1 ?_; intro w2 hown2 hgrow2; have hs2 := hgrow2.size))
  have o1 := Own.made hown1
  have o2 := Own.made hown2
  have b1 : Below w.heap.size w w1 := (Below.refl _ _).grown hgrow1 (Nat.le_refl _) (by simp)
  have b2 : Below w.heap.size w w2 := b1.grown hgrow2 hs1 (by simp)
  have o1' : Own w2 w.heap.size n (fun _ => 0) := o1.carry ((Below.refl _ _).grown hgrow2 (Nat.le_refl _) (by simp))
  have hne : w.heap.size ≠ w1.heap.size := by have := o1.1; omega
  clear hown1 hown2 hgrow1 hgrow2 o1
  generalize w1.heap.size = c at *
  clear b1
  go_loopw [19] (fun i wr => ∃ k : Nat, k ≤ n ∧ i = .int .i64 k ∧ Own wr w.heap.size n (upto (quo total n f) k) ∧ Own wr c n (upto (rem total n f) k) ∧ Below w.heap.size w wr) (fun i _ => n - (intOf i).toNat)
  case atStart => exact ⟨0, Nat.zero_le _, rfl, o1', o2, b2⟩
  case round =>
    obtain ⟨k, hk, rfl, p1, p2, p3⟩ := hrel
    by_cases hlt : k < n
    · have hcell : wr.cell? ⟨sb, off + k, none⟩ = some (.int .i64 (f k)) := (p3.cell (p := ⟨sb, off + k, none⟩) hb).trans (hc k hlt)
      obtain ⟨c1, f1⟩ := p1.2 k hlt
      obtain ⟨c2, f2⟩ := p2.2 k hlt
      have hp := hf.prod k hlt
      have hS := hf.some
      have r1 := (p1.store k (quo total n f k) hlt).other hne.symm k (.int .i64 (rem total n f k))
      have r2 := (p2.other hne k (.int .i64 (quo total n f k))).store k (rem total n f k) hlt
      rw [upto_succ] at r1 r2
      have r3 := (p3.setCell (p := ⟨w.heap.size, k, none⟩) (Nat.le_refl _) (.int .i64 (quo total n f k))).setCell (p := ⟨c, k, none⟩) hs1 (.int .i64 (rem total n f k))
      unfold quo rem at r1 r2 r3
      have R : Hid (_ ∧ _ ∧ _) := ⟨r1, r2, r3⟩
      obtain ⟨hp1, hp2⟩ := hp
      have hS' := hf.sumHi
      clear r1 r2 r3 p1 p2 p3 hc o1' o2 b2 hr hf
      go_wp2
      go_roundw
      case rel => exact ⟨k + 1, by omega, by go_num, R.out⟩
      case measure => simp [intOf]; omega
    · obtain rfl : k = n := by omega
      have q1 : Own wr w.heap.size k (quo total k f) := p1.congr fun j hj => by simp [upto, hj]
      have q2 : Own wr c k (rem total k f) := p2.congr fun j hj => by simp [upto, hj]
      clear p1 p2 hc o1' o2 b2 hr hf
      go_wp2
      go_ret2
      exact ⟨_, _, rfl, Nat.le_refl _, hs1, hne, q1, q2, p3⟩
end Go.Proofs.Ytcombbkhdnipkaa.Bo
