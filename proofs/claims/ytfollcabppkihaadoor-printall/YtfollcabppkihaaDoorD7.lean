/-
  What 'levelsFormed' of 'print' answers. Condition: the levels lie in memory.
-/
import Derived.Test.YtfollcabppkihaaDoorD6
namespace Go.Proofs.YtfollcabppkihaaDoor
open Go.RowKit

/-- The k-th has no other one of its name ahead. -/
def fresh (L : List Lv) (k : Nat) (h : k < L.length) : Bool := !((L.take k).any fun l => decide (l.name = L[k].name))
theorem fresh_iff {L : List Lv} {k : Nat} {h : k < L.length} : fresh L k h = true ↔ ∀ j (hj : j < k), L[j].name ≠ L[k].name := by
  unfold fresh
  rw [Bool.not_eq_true', List.any_eq_false]
  constructor
  · intro H j hj
    have := H L[j] (by rw [List.mem_take_iff_getElem]; exact ⟨j, by omega, rfl⟩)
    simpa using this
  · intro H l hl
    rw [List.mem_take_iff_getElem] at hl
    obtain ⟨j, hj, rfl⟩ := hl
    simpa using H j (by omega)
theorem levels_bad {L : List Lv} {k : Nat} (h : k < L.length) (hb : fresh L k h = false ∨ lvOk L[k] = false) : levelsOk L = false := by
  cases hL : levelsOk L with
  | false => rfl
  | true =>
    unfold levelsOk at hL
    simp only [Bool.and_eq_true, decide_eq_true_eq, List.all_eq_true] at hL
    rcases hb with hb | hb
    · have : fresh L k h = true := fresh_iff.2 fun j hj => List.pairwise_iff_getElem.1 hL.2.2 j k (by omega) h hj
      rw [hb] at this
      cases this
    · have := hL.2.1 L[k] (List.getElem_mem h)
      rw [hb] at this
      cases this
theorem levels_good {L : List Lv} (h16 : L.length ≤ 16) (h : ∀ k (h : k < L.length), fresh L k h = true ∧ lvOk L[k] = true) : levelsOk L = true := by
  unfold levelsOk
  simp only [Bool.and_eq_true, decide_eq_true_eq, List.all_eq_true]
  refine ⟨h16, fun l hl => ?_, List.pairwise_iff_getElem.2 fun i j hi hj hij => fresh_iff.1 (h j hj).1 i hij⟩
  obtain ⟨k, hk, rfl⟩ := List.getElem_of_mem hl
  exact (h k hk).2
theorem LvR.take {w : World} {b off : Nat} {L : List Lv} (hc : ∀ k (h : k < L.length), ∀ j, j < 10 → w.cell? ⟨b, off + k * 10 + j, none⟩ = (lvC L[k])[j]?) (hb : b < w.heap.size) (n : Nat) : LvR w (some ⟨b, off, none⟩) (L.take n) := fun _ =>
  ⟨b, off, rfl, hb, fun k hk j hj => by rw [List.getElem_take]; exact hc k (by rw [List.length_take] at hk; omega) j hj⟩

set_option maxRecDepth 20000 in
theorem levels_ok (a : Option Addr) (c : Nat) (L : List Lv) (w : World) (hr : LvR w a L) (hc : L.length ≤ c) (hl : L.length ≤ 9223372036854775807) (hn : ∀ l ∈ L, l.name.size ≤ 9223372036854775807) :
    Calls Tryd.prog 22 #[.slice a L.length c] w fun e w' => e = .returned (.bool (levelsOk L)) ∧ Below w.heap.size w w' := by
  by_cases h16 : 16 < L.length
  · have e : levelsOk L = false := by unfold levelsOk; rw [decide_eq_false (by omega)]; rfl
    rw [e]
    clear e hr hn hc
    generalize L.length = n at *
    go_enter Tryd.func22, Tryd.ntmps22
    go_wp2_with fail
    go_ret
    exact ⟨rfl, Below.refl _ _⟩
  have HL : Hd (L.length ≤ 16) := ⟨by omega⟩
  have HB : Hd (∀ k (h : k < L.length), (fresh L k h = false ∨ lvOk L[k] = false) → levelsOk L = false) := ⟨fun k h => levels_bad h⟩
  have HG : Hd ((∀ k (h : k < L.length), fresh L k h = true ∧ lvOk L[k] = true) → levelsOk L = true) := ⟨levels_good (by omega)⟩
  have HR : Hd (LvR w a L ∧ ∀ l ∈ L, l.name.size ≤ 9223372036854775807) := ⟨hr, hn⟩
  generalize levelsOk L = R at *
  obtain ⟨n, hnl⟩ : ∃ n, n = L.length := ⟨_, rfl⟩
  have HN : Hd (n = L.length) := ⟨hnl⟩
  rw [← hnl]
  rw [← hnl] at hc
  have n16 : n ≤ 16 := by omega
  clear hr hn hl h16 hnl
  go_enter Tryd.func22, Tryd.ntmps22
  go_wp2_with fail
  go_loopw [3, 4, 5, 11] (fun i3 i4 i5 i wr => ∃ k : Nat, k ≤ n ∧ i = .int .i64 k ∧ Hd ((∀ j (h : j < L.length), j < k → fresh L j h = true ∧ lvOk L[j] = true) ∧ Below w.heap.size w wr)) (fun _ _ _ i _ => n - (intOf i).toNat)
  case atStart => exact ⟨0, Nat.zero_le _, rfl, ⟨fun _ _ h => absurd h (Nat.not_lt_zero _), Below.refl _ _⟩⟩
  case round =>
    obtain ⟨k, hk, rfl, hI⟩ := hrel
    by_cases hlt : k < n
    · have hkL : k < L.length := by rw [← HN.out]; exact hlt
      obtain ⟨b, off, rfl, hb, hcs⟩ := (HR.out.1.carry hI.out.2) (by omega)
      have x0 : wr.cell? ⟨b, off + k * 10, none⟩ = some (.string L[k].name) := hcs k hkL 0 (by decide)
      have x1 : wr.cell? ⟨b, off + k * 10 + 1, none⟩ = some (.int .i64 L[k].kind) := hcs k hkL 1 (by decide)
      have x2 : wr.cell? ⟨b, off + k * 10 + 2, none⟩ = some (.int .i64 L[k].shares) := hcs k hkL 2 (by decide)
      have x3 : wr.cell? ⟨b, off + k * 10 + 3, none⟩ = some (.int .i64 L[k].lend) := hcs k hkL 3 (by decide)
      have x4 : wr.cell? ⟨b, off + k * 10 + 4, none⟩ = some (.int .i64 L[k].borrow) := hcs k hkL 4 (by decide)
      have x5 : wr.cell? ⟨b, off + k * 10 + 5, none⟩ = some (.int .i64 L[k].queues) := hcs k hkL 5 (by decide)
      have x6 : wr.cell? ⟨b, off + k * 10 + 6, none⟩ = some (.int .i64 L[k].hand) := hcs k hkL 6 (by decide)
      have x7 : wr.cell? ⟨b, off + k * 10 + 7, none⟩ = some (.int .i64 L[k].length) := hcs k hkL 7 (by decide)
      have x8 : wr.cell? ⟨b, off + k * 10 + 8, none⟩ = some (.int .i64 L[k].wait) := hcs k hkL 8 (by decide)
      have x9 : wr.cell? ⟨b, off + k * 10 + 9, none⟩ = some (.int .i64 L[k].guess) := hcs k hkL 9 (by decide)
      have AL := alloc_below wr (.cells (lvA L[k]) 37)
      have NB := Blk.new wr 37 (lvA L[k])
      have PH := phasLv (some ⟨b, off, none⟩) c (L.take k) wr.heap.size L[k].name (wr.alloc (.cells (lvA L[k]) 37)) (NB.cellv 0 rfl) ((LvR.take hcs hb k).carry AL) (by rw [List.length_take]; omega)
      have LO := fun W => level_ok L[k] W (HR.out.2 L[k] (List.getElem_mem hkL))
      have hf : ((L.take k).any fun l => decide (l.name = L[k].name)) = !fresh L k hkL := by unfold fresh; rw [Bool.not_not]
      have hlen : (L.take k).length = k := by rw [List.length_take]; omega
      rw [hf, hlen] at PH
      have HBad : Hd ((fresh L k hkL = false ∨ lvOk L[k] = false) → R = false) := ⟨HB.out k hkL⟩
      have HStep : Hd (fresh L k hkL = true → lvOk L[k] = true → ∀ j (h : j < L.length), j < k + 1 → fresh L j h = true ∧ lvOk L[j] = true) := ⟨fun h1 h2 j hj hjk => by
        rcases Nat.lt_or_eq_of_le (Nat.le_of_lt_succ hjk) with h' | h'
        · exact hI.out.1 j hj h'
        · subst h'; exact ⟨h1, h2⟩⟩
      have B1 : Hd (Below w.heap.size w (wr.alloc (.cells (lvA L[k]) 37))) := ⟨hI.out.2.trans (AL.mono hI.out.2.size)⟩
      have HK : Hd (k < n) := ⟨hlt⟩
      clear hcs hf hlen AL hI
      generalize fresh L k hkL = fr at *
      generalize L[k] = l at *
      clear hkL
      unfold lvA at PH NB B1 LO
      have i1 : (k : Int) < (n : Int) := by omega
      go_upto_region 6 with fail
      generalize wr.alloc _ = w1 at *
      generalize wr.heap.size = g at *
      clear x0 x1 x2 x3 x4 x5 x6 x7 x8 x9
      go_wp2_with fail
      go_at_call 37
      refine PH.mono ?_
      rintro e w2 ⟨rfl, b2⟩
      have B2 : Hd (Below w.heap.size w w2) := ⟨B1.out.trans (b2.mono B1.out.size)⟩
      have N2 := NB.kept (Kept.of_below b2 (fun _ => False)) id
      clear PH NB b2 B1
      cases fr with
      | false =>
        have hR := HBad.out (.inl rfl)
        subst hR
        go_wp2_with fail
        go_ret
        exact ⟨rfl, B2.out⟩
      | true =>
        have d0 := N2.cellv 0 rfl
        have d1 := N2.cellv 1 rfl
        have d2 := N2.cellv 2 rfl
        have d3 := N2.cellv 3 rfl
        have d4 := N2.cellv 4 rfl
        have d5 := N2.cellv 5 rfl
        have d6 := N2.cellv 6 rfl
        have d7 := N2.cellv 7 rfl
        have d8 := N2.cellv 8 rfl
        have d9 := N2.cellv 9 rfl
        simp at d0 d1 d2 d3 d4 d5 d6 d7 d8 d9
        clear N2
        generalize lvOk l = ok at *
        cases ok with
        | false =>
          have hR := HBad.out (.inr rfl)
          subst hR
          go_wp2_with (go_at_call 39; refine (LO _).mono ?_; rintro e w3 ⟨rfl, b3⟩)
          go_ret
          exact ⟨rfl, B2.out.trans (b3.mono B2.out.size)⟩
        | true =>
          go_wp2_with (go_at_call 39; refine (LO _).mono ?_; rintro e w3 ⟨rfl, b3⟩)
          have F3 : Hd ((∀ j (h : j < L.length), j < k + 1 → fresh L j h = true ∧ lvOk L[j] = true) ∧ Below w.heap.size w w3) := ⟨HStep.out (by first | exact rfl | trivial) (by first | exact rfl | trivial), B2.out.trans (b3.mono B2.out.size)⟩
          go_roundw
          case rel => exact ⟨k + 1, HK.out, by go_num, F3⟩
          case measure => have := HK.out; simp [intOf]; omega
    · obtain rfl : k = n := by omega
      have hR := HG.out fun j h => hI.out.1 j h (by rw [HN.out]; exact h)
      subst hR
      go_wp2_with fail
      go_ret
      exact ⟨rfl, hI.out.2⟩
end Go.Proofs.YtfollcabppkihaaDoor
