/-
  What 'levelsFormed' of 'print' answers.
  What 'ruleWords' of 'print' answers.
-/
import Derived.Test.YtijjpblmnlednaaGreatDoorE9
import Derived.Test.YtijjpblmnlednaaGreatDoorE12
import Derived.Test.YtijjpblmnlednaaGreatDoorE13
namespace Go.Proofs.YtijjpblmnlednaaGreatDoor
open Go.RowKit
/-- The k-th has no other one of its name ahead. -/
def fresh (L : List Lv) (k : Nat) (h : k < L.length) : Bool := !((L.take k).any fun l => decide (l.name = L[k].name))
theorem fresh_iff {L : List Lv} {k : Nat} {h : k < L.length} : fresh L k h = true ↔ ∀ j (hj : j < k), L[j].name ≠ L[k].name := by
  unfold fresh
  rw [Bool.not_eq_true', List.any_eq_false]
  constructor
  · intro H j hj
    have := H L[j] (by rw [List.mem_take_iff_getElem]; exact ⟨j, by omega, rfl⟩)
    simpa using this
  · intro H l hl
    rw [List.mem_take_iff_getElem] at hl
    obtain ⟨j, hj, rfl⟩ := hl
    simpa using H j (by omega)
theorem levels_bad {L : List Lv} {k : Nat} (h : k < L.length) (hb : fresh L k h = false ∨ lvOk L[k] = false) : levelsOk L = false := by
  cases hL : levelsOk L with
  | false => rfl
  | true =>
    unfold levelsOk at hL
    simp only [Bool.and_eq_true, decide_eq_true_eq, List.all_eq_true] at hL
    rcases hb with hb | hb
    · have : fresh L k h = true := fresh_iff.2 fun j hj => List.pairwise_iff_getElem.1 hL.2.2 j k (by omega) h hj
      rw [hb] at this
      cases this
    · have := hL.2.1 L[k] (List.getElem_mem h)
      rw [hb] at this
      cases this
theorem levels_good {L : List Lv} (h16 : L.length ≤ 16) (h : ∀ k (h : k < L.length), fresh L k h = true ∧ lvOk L[k] = true) : levelsOk L = true := by
  unfold levelsOk
  simp only [Bool.and_eq_true, decide_eq_true_eq, List.all_eq_true]
  refine ⟨h16, fun l hl => ?_, List.pairwise_iff_getElem.2 fun i j hi hj hij => fresh_iff.1 (h j hj).1 i hij⟩
  obtain ⟨k, hk, rfl⟩ := List.getElem_of_mem hl
  exact (h k hk).2
theorem LvR.take {w : World} {b off : Nat} {L : List Lv} (hc : ∀ k (h : k < L.length), ∀ j, j < 10 → w.cell? ⟨b, off + k * 10 + j, none⟩ = (lvC L[k])[j]?) (hb : b < w.heap.size) (n : Nat) : LvR w (some ⟨b, off, none⟩) (L.take n) := fun _ =>
  ⟨b, off, rfl, hb, fun k hk j hj => by rw [List.getElem_take]; exact hc k (by rw [List.length_take] at hk; omega) j hj⟩

set_option maxRecDepth 20000 in
theorem levels_ok (a : Option Addr) (c : Nat) (L : List Lv) (w : World) (hr : LvR w a L) (hc : L.length ≤ c) (hl : L.length ≤ 9223372036854775807) (hn : ∀ l ∈ L, l.name.size ≤ 9223372036854775807) :
    Calls Tryz.prog 61 #[.slice a L.length c] w fun e w' => e = .returned (.bool (levelsOk L)) ∧ Below w.heap.size w w' := by
  by_cases h16 : 16 < L.length
  · have e : levelsOk L = false := by unfold levelsOk; rw [decide_eq_false (by omega)]; rfl
    rw [e]
    clear e hr hn hc
    generalize L.length = n at *
    go_enter Tryz.func61, Tryz.ntmps61
    go_wp2_with fail
    go_ret
    exact ⟨rfl, Below.refl _ _⟩
  have HL : Hd (L.length ≤ 16) := ⟨by omega⟩
  have HB : Hd (∀ k (h : k < L.length), (fresh L k h = false ∨ lvOk L[k] = false) → levelsOk L = false) := ⟨fun k h => levels_bad h⟩
  have HG : Hd ((∀ k (h : k < L.length), fresh L k h = true ∧ lvOk L[k] = true) → levelsOk L = true) := ⟨levels_good (by omega)⟩
  have HR : Hd (LvR w a L ∧ ∀ l ∈ L, l.name.size ≤ 9223372036854775807) := ⟨hr, hn⟩
  generalize levelsOk L = R at *
  obtain ⟨n, hnl⟩ : ∃ n, n = L.length := ⟨_, rfl⟩
  have HN : Hd (n = L.length) := ⟨hnl⟩
  rw [← hnl]
  rw [← hnl] at hc
  have n16 : n ≤ 16 := by omega
  clear hr hn hl h16 hnl
  go_enter Tryz.func61, Tryz.ntmps61
  go_wp2_with fail
  go_loopw [3, 4, 5, 11] (fun i3 i4 i5 i wr => ∃ k : Nat, k ≤ n ∧ i = .int .i64 k ∧ Hd ((∀ j (h : j < L.length), j < k → fresh L j h = true ∧ lvOk L[j] = true) ∧ Below w.heap.size w wr)) (fun _ _ _ i _ => n - (intOf i).toNat)
  case atStart => exact ⟨0, Nat.zero_le _, rfl, ⟨fun _ _ h => absurd h (Nat.not_lt_zero _), Below.refl _ _⟩⟩
  case round =>
    obtain ⟨k, hk, rfl, hI⟩ := hrel
    by_cases hlt : k < n
    · have hkL : k < L.length := by rw [← HN.out]; exact hlt
      obtain ⟨b, off, rfl, hb, hcs⟩ := (HR.out.1.carry hI.out.2) (by omega)
      have x0 : wr.cell? ⟨b, off + k * 10, none⟩ = some (.string L[k].name) := hcs k hkL 0 (by decide)
      have x1 : wr.cell? ⟨b, off + k * 10 + 1, none⟩ = some (.int .i64 L[k].kind) := hcs k hkL 1 (by decide)
      have x2 : wr.cell? ⟨b, off + k * 10 + 2, none⟩ = some (.int .i64 L[k].shares) := hcs k hkL 2 (by decide)
      have x3 : wr.cell? ⟨b, off + k * 10 + 3, none⟩ = some (.int .i64 L[k].lend) := hcs k hkL 3 (by decide)
      have x4 : wr.cell? ⟨b, off + k * 10 + 4, none⟩ = some (.int .i64 L[k].borrow) := hcs k hkL 4 (by decide)
      have x5 : wr.cell? ⟨b, off + k * 10 + 5, none⟩ = some (.int .i64 L[k].queues) := hcs k hkL 5 (by decide)
      have x6 : wr.cell? ⟨b, off + k * 10 + 6, none⟩ = some (.int .i64 L[k].hand) := hcs k hkL 6 (by decide)
      have x7 : wr.cell? ⟨b, off + k * 10 + 7, none⟩ = some (.int .i64 L[k].length) := hcs k hkL 7 (by decide)
      have x8 : wr.cell? ⟨b, off + k * 10 + 8, none⟩ = some (.int .i64 L[k].wait) := hcs k hkL 8 (by decide)
      have x9 : wr.cell? ⟨b, off + k * 10 + 9, none⟩ = some (.int .i64 L[k].guess) := hcs k hkL 9 (by decide)
      have AL := alloc_below wr (.cells (lvA L[k]) 45)
      have NB := Blk.new wr 45 (lvA L[k])
      have PH := phasLv (some ⟨b, off, none⟩) c (L.take k) wr.heap.size L[k].name (wr.alloc (.cells (lvA L[k]) 45)) (NB.cellv 0 rfl) ((LvR.take hcs hb k).carry AL) (by rw [List.length_take]; omega)
      have LO := fun W => level_ok L[k] W (HR.out.2 L[k] (List.getElem_mem hkL))
      have hf : ((L.take k).any fun l => decide (l.name = L[k].name)) = !fresh L k hkL := by unfold fresh; rw [Bool.not_not]
      have hlen : (L.take k).length = k := by rw [List.length_take]; omega
      rw [hf, hlen] at PH
      have HBad : Hd ((fresh L k hkL = false ∨ lvOk L[k] = false) → R = false) := ⟨HB.out k hkL⟩
      have HStep : Hd (fresh L k hkL = true → lvOk L[k] = true → ∀ j (h : j < L.length), j < k + 1 → fresh L j h = true ∧ lvOk L[j] = true) := ⟨fun h1 h2 j hj hjk => by
        rcases Nat.lt_or_eq_of_le (Nat.le_of_lt_succ hjk) with h' | h'
        · exact hI.out.1 j hj h'
        · subst h'; exact ⟨h1, h2⟩⟩
      have B1 : Hd (Below w.heap.size w (wr.alloc (.cells (lvA L[k]) 45))) := ⟨hI.out.2.trans (AL.mono hI.out.2.size)⟩
      have HK : Hd (k < n) := ⟨hlt⟩
      clear hcs hf hlen AL hI
      generalize fresh L k hkL = fr at *
      generalize L[k] = l at *
      clear hkL
      unfold lvA at PH NB B1 LO
      have i1 : (k : Int) < (n : Int) := by omega
      go_upto_region 6 with fail
      generalize wr.alloc _ = w1 at *
      generalize wr.heap.size = g at *
      clear x0 x1 x2 x3 x4 x5 x6 x7 x8 x9
      go_wp2_with fail
      go_at_call 99
      refine PH.mono ?_
      rintro e w2 ⟨rfl, b2⟩
      have B2 : Hd (Below w.heap.size w w2) := ⟨B1.out.trans (b2.mono B1.out.size)⟩
      have N2 := NB.kept (Kept.of_below b2 (fun _ => False)) id
      clear PH NB b2 B1
      cases fr with
      | false =>
        have hR := HBad.out (.inl rfl)
        subst hR
        go_wp2_with fail
        go_ret
        exact ⟨rfl, B2.out⟩
      | true =>
        have d0 := N2.cellv 0 rfl
        have d1 := N2.cellv 1 rfl
        have d2 := N2.cellv 2 rfl
        have d3 := N2.cellv 3 rfl
        have d4 := N2.cellv 4 rfl
        have d5 := N2.cellv 5 rfl
        have d6 := N2.cellv 6 rfl
        have d7 := N2.cellv 7 rfl
        have d8 := N2.cellv 8 rfl
        have d9 := N2.cellv 9 rfl
        simp at d0 d1 d2 d3 d4 d5 d6 d7 d8 d9
        clear N2
        generalize lvOk l = ok at *
        cases ok with
        | false =>
          have hR := HBad.out (.inr rfl)
          subst hR
          go_wp2_with (go_at_call 107; refine (LO _).mono ?_; rintro e w3 ⟨rfl, b3⟩)
          go_ret
          exact ⟨rfl, B2.out.trans (b3.mono B2.out.size)⟩
        | true =>
          go_wp2_with (go_at_call 107; refine (LO _).mono ?_; rintro e w3 ⟨rfl, b3⟩)
          have F3 : Hd ((∀ j (h : j < L.length), j < k + 1 → fresh L j h = true ∧ lvOk L[j] = true) ∧ Below w.heap.size w w3) := ⟨HStep.out (by first | exact rfl | trivial) (by first | exact rfl | trivial), B2.out.trans (b3.mono B2.out.size)⟩
          go_roundw
          case rel => exact ⟨k + 1, HK.out, by go_num, F3⟩
          case measure => have := HK.out; simp [intOf]; omega
    · obtain rfl : k = n := by omega
      have hR := HG.out fun j h => hI.out.1 j h (by rw [HN.out]; exact h)
      subst hR
      go_wp2_with fail
      go_ret
      exact ⟨rfl, hI.out.2⟩
theorem LsR.join {w : World} {v : Value} {L : List ByteArray} (h : LsR w v L) : Calls Tryz.prog 123 #[v] w fun e w' => e = .returned (.string (joinB L)) ∧ Below w.heap.size w w' := by
  obtain ⟨a, c, rfl, hr, hc, hm, hs⟩ := h
  exact join_ok a c L w hr (fun k hk => hs _ (gt_mem hk)) hc (by omega)
theorem five_row (w : World) (x0 x1 x2 x3 x4 : ByteArray) : RowL (w.alloc (.cells #[.string x0, .string x1, .string x2, .string x3, .string x4] 9)) (some ⟨w.heap.size, 0, none⟩) [x0, x1, x2, x3, x4] := fun _ => by
  have n := Blk.new w 9 #[.string x0, .string x1, .string x2, .string x3, .string x4]
  refine ⟨w.heap.size, 0, rfl, n.lt, fun k hk => ?_⟩
  rw [Nat.zero_add, n.cell k]
  match k, hk with
  | 0, _ => rfl
  | 1, _ => rfl
  | 2, _ => rfl
  | 3, _ => rfl
  | 4, _ => rfl
set_option maxRecDepth 20000 in
set_option maxHeartbeats 2000000 in
theorem ruleWords_ok (v0 v1 v2 v3 v4 : Value) (r : Rl) (w : World) (h : RuR w v0 v1 v2 v3 v4 r) :
    Calls Tryz.prog 92 #[.agg #[v0, v1, v2, v3, v4]] w fun e w' => ∃ a, e = .returned (.slice a 5 5) ∧ RowL w' a (rlJ r) ∧ Below w.heap.size w w' := by
  have HJ : Hd (RuR w v0 v1 v2 v3 v4 r) := ⟨h⟩
  obtain ⟨⟨a0, c0, rfl, -⟩, ⟨a1, c1, rfl, -⟩, ⟨a2, c2, rfl, -⟩, ⟨a3, c3, rfl, -⟩, ⟨a4, c4, rfl, -⟩⟩ := h
  have e5 : rlJ r = [joinB r.users, joinB r.groups, joinB r.verbs, joinB r.resources, joinB r.spaces] := rfl
  rw [e5]
  clear e5
  have J0 : Hd (∀ W, Below w.heap.size w W → Calls Tryz.prog 123 #[.slice a0 r.users.length c0] W fun e w' => e = .returned (.string (joinB r.users)) ∧ Below W.heap.size W w') := ⟨fun W hW => (HJ.out.1.carry hW).join⟩
  have J1 : Hd (∀ W, Below w.heap.size w W → Calls Tryz.prog 123 #[.slice a1 r.groups.length c1] W fun e w' => e = .returned (.string (joinB r.groups)) ∧ Below W.heap.size W w') := ⟨fun W hW => (HJ.out.2.1.carry hW).join⟩
  have J2 : Hd (∀ W, Below w.heap.size w W → Calls Tryz.prog 123 #[.slice a2 r.verbs.length c2] W fun e w' => e = .returned (.string (joinB r.verbs)) ∧ Below W.heap.size W w') := ⟨fun W hW => (HJ.out.2.2.1.carry hW).join⟩
  have J3 : Hd (∀ W, Below w.heap.size w W → Calls Tryz.prog 123 #[.slice a3 r.resources.length c3] W fun e w' => e = .returned (.string (joinB r.resources)) ∧ Below W.heap.size W w') := ⟨fun W hW => (HJ.out.2.2.2.1.carry hW).join⟩
  have J4 : Hd (∀ W, Below w.heap.size w W → Calls Tryz.prog 123 #[.slice a4 r.spaces.length c4] W fun e w' => e = .returned (.string (joinB r.spaces)) ∧ Below W.heap.size W w') := ⟨fun W hW => (HJ.out.2.2.2.2.carry hW).join⟩
  clear HJ
  generalize joinB r.users = x0 at *
  generalize joinB r.groups = x1 at *
  generalize joinB r.verbs = x2 at *
  generalize joinB r.resources = x3 at *
  generalize joinB r.spaces = x4 at *
  generalize r.users.length = n0 at *
  generalize r.groups.length = n1 at *
  generalize r.verbs.length = n2 at *
  generalize r.resources.length = n3 at *
  generalize r.spaces.length = n4 at *
  have AL := alloc_below w (.cells #[.slice a0 n0 c0, .slice a1 n1 c1, .slice a2 n2 c2, .slice a3 n3 c3, .slice a4 n4 c4] 50)
  have NB := Blk.new w 50 #[.slice a0 n0 c0, .slice a1 n1 c1, .slice a2 n2 c2, .slice a3 n3 c3, .slice a4 n4 c4]
  go_enter Tryz.func92, Tryz.ntmps92
  go_upto_region 1 with fail
  generalize w.alloc _ = w1 at *
  have DR : Below w1.heap.size w1 w1.drew := ⟨rfl, rfl, rfl, Nat.le_refl _, fun _ _ => rfl⟩
  have B0 : Below w.heap.size w w1.drew := AL.trans (DR.mono AL.size)
  have A0 := NB.kept (Kept.of_below DR (fun _ => False)) id
  refine AnyG.start (T := fun w' => Blk w' w.heap.size 50 #[.slice a0 n0 c0, .slice a1 n1 c1, .slice a2 n2 c2, .slice a3 n3 c3, .slice a4 n4 c4]) (U := fun _ => True) (j0 := 100) (by kernel_rfl) ?_
  clear DR AL NB
  generalize w1.drew = w0 at *
  refine .tq 0 3 A0 ?_; simp only [tkA, tkB, tkC]
  refine .tq 1 4 A0 ?_ (hy := fun w hSw => by have s4 := hSw.cellv (v := .slice a0 n0 c0) 0 rfl; go_simp; rfl); simp only [tkA, tkB, tkC]
  refine .tq 3 6 A0 ?_; simp only [tkA, tkB, tkC]
  refine .tq 4 7 A0 ?_ (hy := fun w hSw => by have s4 := hSw.cellv (v := .slice a1 n1 c1) 1 rfl; go_simp; rfl); simp only [tkA, tkB, tkC]
  refine .tq 6 9 A0 ?_; simp only [tkA, tkB, tkC]
  refine .tq 7 10 A0 ?_ (hy := fun w hSw => by have s4 := hSw.cellv (v := .slice a2 n2 c2) 2 rfl; go_simp; rfl); simp only [tkA, tkB, tkC]
  refine .tq 9 12 A0 ?_; simp only [tkA, tkB, tkC]
  refine .tq 10 13 A0 ?_ (hy := fun w hSw => by have s4 := hSw.cellv (v := .slice a3 n3 c3) 3 rfl; go_simp; rfl); simp only [tkA, tkB, tkC]
  refine .tq 12 15 A0 ?_; simp only [tkA, tkB, tkC]
  refine .tq 13 16 A0 ?_ (hy := fun w hSw => by have s4 := hSw.cellv (v := .slice a4 n4 c4) 4 rfl; go_simp; rfl); simp only [tkA, tkB, tkC]
  refine AnyG.ready (rs := [2]) (by kernel_rfl) (by simp) ?_
  refine AllG.cons rfl (fun K hK => ?_) AllG.nil
  go_simp
  refine (J0.out w0 B0).mono ?_
  rintro e wk1 ⟨rfl, b1⟩
  have Ak1 := A0.kept (Kept.of_below b1 (fun _ => False)) id
  have Bk1 : Below w.heap.size w wk1 := B0.trans (b1.mono B0.size)
  refine hK.out _ _ ⟨Ak1, fun _ => trivial⟩ ?_
  clear hK K b1 A0 B0
  refine AnyG.ready (rs := [5]) (by kernel_rfl) (by simp) ?_
  refine AllG.cons rfl (fun K hK => ?_) AllG.nil
  go_simp
  refine (J1.out wk1 Bk1).mono ?_
  rintro e wk2 ⟨rfl, b2⟩
  have Ak2 := Ak1.kept (Kept.of_below b2 (fun _ => False)) id
  have Bk2 : Below w.heap.size w wk2 := Bk1.trans (b2.mono Bk1.size)
  refine hK.out _ _ ⟨Ak2, fun _ => trivial⟩ ?_
  clear hK K b2 Ak1 Bk1
  refine AnyG.ready (rs := [8]) (by kernel_rfl) (by simp) ?_
  refine AllG.cons rfl (fun K hK => ?_) AllG.nil
  go_simp
  refine (J2.out wk2 Bk2).mono ?_
  rintro e wk3 ⟨rfl, b3⟩
  have Ak3 := Ak2.kept (Kept.of_below b3 (fun _ => False)) id
  have Bk3 : Below w.heap.size w wk3 := Bk2.trans (b3.mono Bk2.size)
  refine hK.out _ _ ⟨Ak3, fun _ => trivial⟩ ?_
  clear hK K b3 Ak2 Bk2
  refine AnyG.ready (rs := [11]) (by kernel_rfl) (by simp) ?_
  refine AllG.cons rfl (fun K hK => ?_) AllG.nil
  go_simp
  refine (J3.out wk3 Bk3).mono ?_
  rintro e wk4 ⟨rfl, b4⟩
  have Ak4 := Ak3.kept (Kept.of_below b4 (fun _ => False)) id
  have Bk4 : Below w.heap.size w wk4 := Bk3.trans (b4.mono Bk3.size)
  refine hK.out _ _ ⟨Ak4, fun _ => trivial⟩ ?_
  clear hK K b4 Ak3 Bk3
  refine AnyG.ready (rs := [14]) (by kernel_rfl) (by simp) ?_
  refine AllG.cons rfl (fun K hK => ?_) AllG.nil
  go_simp
  refine (J4.out wk4 Bk4).mono ?_
  rintro e wk5 ⟨rfl, b5⟩
  have Ak5 := Ak4.kept (Kept.of_below b5 (fun _ => False)) id
  have Bk5 : Below w.heap.size w wk5 := Bk4.trans (b5.mono Bk4.size)
  refine hK.out _ _ ⟨Ak5, fun _ => trivial⟩ ?_
  clear hK K b5 Ak4 Bk4
  refine AnyG.ready (rs := [15]) (by kernel_rfl) (by simp) ?_
  refine AllG.cons rfl (fun K hK => ?_) AllG.nil
  go_simp
  have AL6 := alloc_below wk5 (.cells #[.string x0, .string x1, .string x2, .string x3, .string x4] 9)
  have Ak6 := Ak5.kept (Kept.of_below AL6 (fun _ => False)) id
  have Bk6 : Below w.heap.size w (wk5.alloc (.cells #[.string x0, .string x1, .string x2, .string x3, .string x4] 9)) := Bk5.trans (AL6.mono Bk5.size)
  have RW := five_row wk5 x0 x1 x2 x3 x4
  refine hK.out _ _ ⟨Ak6, fun _ => trivial⟩ ?_
  clear hK K AL6 Ak5 Bk5
  generalize wk5.alloc (.cells #[.string x0, .string x1, .string x2, .string x3, .string x4] 9) = wk6 at *
  generalize wk5.heap.size = gk6 at *
  refine .tq 16 2 Ak6 ?_; simp only [tkA, tkB, tkC]
  refine AnyG.done (by kernel_rfl) ?_ _
  go_wp2_with fail
  go_ret
  exact ⟨_, rfl, RW, Bk6⟩
end Go.Proofs.YtijjpblmnlednaaGreatDoor
