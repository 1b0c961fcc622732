/-
  What 'cards', 'slices.Delete' of one element and 'Deal' of the program answer, for every hash, every deck and every number of cards; and that the fixed answer of the statements ('awake') is met. Conditions: of 'cards' that the deck is one; of 'slices.Delete' that the list may be written.
-/
import Derived.Test.YtcfjnflicgifjaaWalkA
import Derived.Test.YtcfjnflicgifjaaShelf
namespace Go.Proofs.Ytcfjnflicgifjaa
open Go.RowKit

def upd (f : Nat → Int) (i : Nat) (x : Int) : Nat → Int := fun j => if j = i then x else f j
theorem upd_same (f : Nat → Int) (i : Nat) (x : Int) : upd f i x i = x := by simp [upd]
theorem upd_other {f : Nat → Int} {i j : Nat} {x : Int} (h : j ≠ i) : upd f i x j = f j := by simp [upd, h]

/-- A block of n numbers that may be written. -/
def Own (w : World) (b n : Nat) (f : Nat → Int) : Prop :=
  b < w.heap.size ∧ ∀ k, k < n → w.cell? ⟨b, k, none⟩ = some (.int .i64 (f k)) ∧ w.frozen? ⟨b, k, none⟩ = false

theorem Own.row {w : World} {b n : Nat} {f : Nat → Int} (h : Own w b n f) : Row w (some ⟨b, 0, none⟩) n f :=
  fun _ => ⟨b, 0, rfl, h.1, fun k hk => by rw [Nat.zero_add]; exact (h.2 k hk).1⟩
theorem Own.carry {w w' : World} {b n : Nat} {f : Nat → Int} (h : Own w b n f) (g : Below w.heap.size w w') : Own w' b n f :=
  ⟨Nat.lt_of_lt_of_le h.1 g.size, fun k hk => ⟨(g.cell (p := ⟨b, k, none⟩) h.1).trans (h.2 k hk).1, (g.frozen (p := ⟨b, k, none⟩) h.1).trans (h.2 k hk).2⟩⟩
theorem Own.store {w : World} {b n : Nat} {f : Nat → Int} (h : Own w b n f) (i : Nat) (x : Int) (hi : i < n) : Own (w.setCell ⟨b, i, none⟩ (.int .i64 x)) b n (upd f i x) := by
  refine ⟨by simpa using h.1, fun k hk => ⟨?_, by simpa using (h.2 k hk).2⟩⟩
  by_cases c : k = i
  · subst c
    rw [upd_same]
    exact World.cell?_setCell_same _ _ _ (h.2 k hk).1
  · rw [upd_other c, World.cell?_setCell_other]
    · exact (h.2 k hk).1
    · intro e; exact c (Addr.mk.inj e).2.1.symm
theorem Own.other {w : World} {b b' n : Nat} {f : Nat → Int} (h : Own w b n f) (hb : b' ≠ b) (i : Nat) (v : Value) : Own (w.setCell ⟨b', i, none⟩ v) b n f := by
  refine ⟨by simpa using h.1, fun k hk => ⟨?_, by simpa using (h.2 k hk).2⟩⟩
  rw [World.cell?_setCell_other]
  · exact (h.2 k hk).1
  · intro e; exact hb (Addr.mk.inj e).1
theorem Own.congr {w : World} {b n : Nat} {f g : Nat → Int} (h : Own w b n f) (e : ∀ k, k < n → f k = g k) : Own w b n g :=
  ⟨h.1, fun k hk => by rw [← e k hk]; exact h.2 k hk⟩

theorem Try.info3 : (Try.prog.info? 3).map (fun i => (i.zero, i.size, i.bytes)) = some (some (.int .i64 0), 1, 8) := by kernel_rfl

/-- A slice that was made: zeros. -/
theorem Own.made {w : World} {base n g : Nat} (h : w.ownsRow base 3 1 (.slice (some ⟨g, 0, none⟩) n n) n (madeCells (Value.cells (.int .i64 0)) (n * 1)).toList) : Own w g n (fun _ => 0) := by
  refine ⟨(h.lt g rfl).2, fun k hk => ⟨?_, h.frozenAt k⟩⟩
  rw [h.cellAt k (by omega)]
  simp [Value.cells, toList_madeCells_one, hk]

/-- The first k are done. -/
def upto (f : Nat → Int) (k : Nat) : Nat → Int := fun j => if j < k then f j else 0
theorem upto_succ (f : Nat → Int) (k : Nat) : upd (upto f k) k (f k) = upto f (k + 1) := by
  funext j
  unfold upd upto
  by_cases c : j = k
  · subst c; simp
  · rw [if_neg c]
    by_cases d : j < k
    · rw [if_pos d, if_pos (by omega)]
    · rw [if_neg d, if_neg (by omega)]
theorem upto_zero (f : Nat → Int) : upto f 0 = fun _ => 0 := by
  funext j; simp [upto]

theorem cards_any (D : Nat) (w : World) (h0 : 1 ≤ D) (h1 : D ≤ 64) :
    Calls Try.prog 17 #[.int .i64 D] w fun e w' => e = .returned (.slice (some ⟨w.heap.size, 0, none⟩) D D) ∧ Own w' w.heap.size D (ints fun j => j) ∧ Below w.heap.size w w' := by
  obtain ⟨i0, hi, hz0, hz1, hz2⟩ := info_parts Try.info3
  go_enter Try.func17, Try.ntmps17
  go_wp2_with (at_make; refine wpList_make_full _ rfl (.tmp 5) (.tmp 5) 24 rfl w.heap.size 3 i0 (.int .i64 0) 1 Try.underlying24 hi hz0 hz1 _ _ _ _ D rfl rfl rfl rfl (by rw [hz2]; omega) (by unfold maxLen; omega) (Nat.le_refl _) ?_; intro w1 hown1 hgrow1)
  have o1 := Own.made hown1
  have b1 : Below w.heap.size w w1 := (Below.refl _ _).grown hgrow1 (Nat.le_refl _) (by simp)
  clear hown1 hgrow1
  go_loopw [9] (fun i wr => ∃ k : Nat, k ≤ D ∧ i = .int .i64 k ∧ Own wr w.heap.size D (upto (ints fun j => j) k) ∧ Below w.heap.size w wr) (fun i _ => D - (intOf i).toNat)
  case atStart => exact ⟨0, Nat.zero_le _, rfl, by rw [upto_zero]; exact o1, b1⟩
  case round =>
    obtain ⟨k, hk, rfl, p1, p3⟩ := hrel
    by_cases hlt : k < D
    · obtain ⟨c1, f1⟩ := p1.2 k hlt
      have r1 := p1.store k (k : Int) hlt
      rw [show upd (upto (ints fun j => j) k) k (k : Int) = upto (ints fun j => j) (k + 1) from upto_succ _ k] at r1
      have r3 := p3.setCell (p := ⟨w.heap.size, k, none⟩) (Nat.le_refl _) (.int .i64 (k : Int))
      have R : Hid (_ ∧ _) := ⟨r1, r3⟩
      clear r1 r3 p1 p3 o1 b1
      go_wp2
      go_roundw
      case rel => exact ⟨k + 1, by omega, by go_num, R.out⟩
      case measure => simp [intOf]; omega
    · obtain rfl : k = D := by omega
      have q1 : Own wr w.heap.size k (ints fun j => j) := p1.congr fun j hj => by simp [upto, hj]
      clear p1 o1 b1
      go_wp2
      go_ret
      exact ⟨rfl, q1, p3⟩

/-- Only block b has turned. -/
structure Only (b : Nat) (w w' : World) : Prop where
  below : ∀ B, B ≤ b → Below B w w'
  other : ∀ c n f, c ≠ b → Own w c n f → Own w' c n f

theorem only_put {b q : Nat} {w : World} (d : Array Int) : Only b w (Sort.putRow (Value.int .i64) (Sort.ahead w q) b 0 d) := by
  refine ⟨fun B hB => ⟨rfl, rfl, rfl, ?_, fun k hk => ?_⟩, fun c n f hc ho => ⟨?_, fun k hk => ⟨?_, ?_⟩⟩⟩
  · rw [Sort.size_putRow]; exact Nat.le_refl _
  · show (w.heap.modify b _)[k]? = _
    rw [Array.getElem?_modify, if_neg (by omega)]
  · rw [Sort.size_putRow]; exact ho.1
  · rw [Sort.cell?_putRow_other _ _ _ _ _ _ (.inl hc)]; exact (ho.2 k hk).1
  · rw [Sort.frozen?_putRow]; exact (ho.2 k hk).2

theorem delete_one (b n cap i : Nat) (c : Nat → Nat) (w : World) (ho : Own w b n (ints c)) (hi : i < n) (hc : n ≤ cap) (hm : cap ≤ 64) :
    Calls Try.prog 18 #[.slice (some ⟨b, 0, none⟩) n cap, .int .i64 i, .int .i64 ((i : Int) + 1)] w fun e w' =>
      e = .returned (.slice (some ⟨b, 0, none⟩) (n - 1) cap) ∧ Own w' b (n - 1) (ints fun j => if j < i then c j else c (j + 1)) ∧ Only b w w' := by
  obtain ⟨zs, hzs⟩ : ∃ zs, zs = (List.range n).map (ints c) := ⟨_, rfl⟩
  have hl : zs.length = n := by rw [hzs]; simp
  have hg : ∀ k, k < n → zs[k]? = some (ints c k) := by intro k hk; rw [hzs]; simp [hk]
  have hH : Sort.Holds (Value.int .i64) w b 0 zs.toArray := by
    intro j hj
    have hj' : j < n := by simpa [hl] using hj
    have e : zs.toArray[j]! = ints c j := by
      rw [getElem!_pos _ j hj]
      have := hg j hj'
      rw [List.getElem?_eq_getElem (by omega)] at this
      simpa using this
    rw [Nat.zero_add, e]
    exact ho.2 j hj'
  have h := Any.slices_Delete_int Try.laysDelete b 0 cap i (i + 1) zs w hH (by omega) (by omega) (by omega) (by omega)
  rw [hl] at h
  refine Calls.mono (show Calls Try.prog 18 #[.slice (some ⟨b, 0, none⟩) n cap, .int .i64 i, .int .i64 ((i : Int) + 1)] w _ from h) ?_
  rintro e w' ⟨rfl, q, rfl⟩
  refine ⟨by rw [show i + 1 - i = 1 by omega], ?_, only_put _⟩
  have hs : (zs.take i ++ zs.drop (i + 1) ++ List.replicate (i + 1 - i) 0).toArray.size = zs.toArray.size := by simp; omega
  have hp := Sort.holds_putRow (Value.int .i64) (Sort.ahead w q) b 0 zs.toArray _ (Sort.holds_ahead _ w q b 0 _ hH) hs
  refine ⟨by rw [Sort.size_putRow]; exact ho.1, fun k hk => ?_⟩
  have hk' : k < (zs.take i ++ zs.drop (i + 1) ++ List.replicate (i + 1 - i) 0).toArray.size := by rw [hs]; simp [hl]; omega
  obtain ⟨h1, h2⟩ := hp k hk'
  rw [Nat.zero_add] at h1 h2
  refine ⟨h1.trans ?_, h2⟩
  rw [getElem!_pos _ k hk']
  have e : (zs.take i ++ zs.drop (i + 1) ++ List.replicate (i + 1 - i) 0)[k]? = some (ints (fun j => if j < i then c j else c (j + 1)) k) := by
    rw [List.getElem?_append_left (by simp; omega)]
    by_cases t : k < i
    · rw [List.getElem?_append_left (by simp; omega), List.getElem?_take, if_pos t, hg k (by omega)]
      simp [ints, t]
    · rw [List.getElem?_append_right (by simp; omega), List.getElem?_drop, hg _ (by simp; omega)]
      have : i + 1 + (k - (List.take i zs).length) = k + 1 := by simp; omega
      rw [this]
      simp [ints, t]
  rw [List.getElem?_eq_getElem (by simpa using hk')] at e
  have e' := Option.some.inj e
  congr 2
end Go.Proofs.Ytcfjnflicgifjaa
