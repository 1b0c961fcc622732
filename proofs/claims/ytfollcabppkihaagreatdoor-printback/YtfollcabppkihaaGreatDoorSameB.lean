/-
  'Same' of the reference at two configurations, where both are the same. Condition: they lie in memory.
-/
import Derived.Test.YtfollcabppkihaaGreatDoorSameA
import Derived.Deep.RegionHeld
namespace Go.Proofs.YtfollcabppkihaaGreatDoor
open Go.RowKit

/-- What a row of levels reads like, at each place. -/
def LvRd (w : World) (a : Option Addr) (L : List Lv) : Prop := 0 < L.length → ∃ g, a = some ⟨g, 0, none⟩ ∧ g < w.heap.size ∧ ∀ k (h : k < L.length), ∀ j, j < 10 → w.cell? ⟨g, k * 10 + j, none⟩ = (lvC L[k])[j]?
def ScRd (w : World) (a : Option Addr) (L : List Sc) (V : List Value) : Prop := 0 < L.length → ∃ g, a = some ⟨g, 0, none⟩ ∧ g < w.heap.size ∧ ∀ k (h : k < L.length) (h' : k < V.length), ∀ j, j < 5 → w.cell? ⟨g, k * 5 + j, none⟩ = (scC L[k] V[k])[j]?
theorem lv_rd {B : Nat} {w : World} {a : Option Addr} {c : Nat} {L : List Lv} (h : LvOwn B w (.slice a L.length c) L) : LvRd w a L := fun hn => by
  rcases rowLv h with ⟨_, rfl⟩ | ⟨g, cap, e, hg, hc, hcs⟩
  · simp at hn
  · injection e with e
    exact ⟨g, e, hg, hcs⟩
theorem sc_rd {B : Nat} {w : World} {a : Option Addr} {c : Nat} {L : List Sc} {V : List Value} (h : ScOwn B w (.slice a L.length c) L V) : ScRd w a L V := fun hn => by
  rcases rowSc h with ⟨_, rfl⟩ | ⟨g, cap, e, hg, hc, hcs⟩
  · simp at hn
  · injection e with e
    exact ⟨g, e, hg, hcs⟩
theorem own_len {B e size n : Nat} {w : World} {v : Value} {xs : List Value} (h : w.ownsRow B e size v n xs) : n ≤ 9223372036854775807 := by
  rcases h.2 with ⟨_, rfl⟩ | ⟨g, cap, cur, _, _, _, h1, h2, _⟩
  · omega
  · unfold maxLen at h2; omega

/-- The two configurations in the course of the comparison. -/
structure Two (w wr : World) (A1 A2 : Nat) (x0 x1 x2 x3 : Int) (a1 a2 s1 s2 : Option Addr) (c1 c2 d1 d2 : Nat) (L : List Lv) (S : List Sc) (V1 V2 : List Value) : Prop where
  bel : Below w.heap.size w wr
  b1 : Blk wr A1 25 #[.int .i64 x0, .int .i64 x1, .int .i64 x2, .int .i64 x3, .slice a1 L.length c1, .slice s1 S.length d1]
  b2 : Blk wr A2 25 #[.int .i64 x0, .int .i64 x1, .int .i64 x2, .int .i64 x3, .slice a2 L.length c2, .slice s2 S.length d2]
  l1 : LvRd wr a1 L
  l2 : LvRd wr a2 L
  o1 : ∃ B, ScOwn B wr (.slice s1 S.length d1) S V1
  o2 : ∃ B, ScOwn B wr (.slice s2 S.length d2) S V2
theorem LvRd.grown {w w' : World} {a : Option Addr} {L : List Lv} (h : LvRd w a L) (b : Below w.heap.size w w') : LvRd w' a L := fun hn => by
  obtain ⟨g, e, hg, hc⟩ := h hn
  exact ⟨g, e, Nat.lt_of_lt_of_le hg b.size, fun k hk j hj => (b.cell (p := ⟨g, k * 10 + j, none⟩) hg).trans (hc k hk j hj)⟩
section
variable {w wr w' : World} {A1 A2 : Nat} {x0 x1 x2 x3 : Int} {a1 a2 s1 s2 : Option Addr} {c1 c2 d1 d2 : Nat} {L : List Lv} {S : List Sc} {V1 V2 : List Value}
theorem Two.grown (h : Two w wr A1 A2 x0 x1 x2 x3 a1 a2 s1 s2 c1 c2 d1 d2 L S V1 V2) (b : Below wr.heap.size wr w') : Two w w' A1 A2 x0 x1 x2 x3 a1 a2 s1 s2 c1 c2 d1 d2 L S V1 V2 := by
  have k : Kept (fun _ => False) wr w' := Kept.of_below b _
  have f : ∀ t, Off t (fun _ => False) wr := fun _ _ _ _ _ => id
  obtain ⟨B1, o1⟩ := h.o1
  obtain ⟨B2, o2⟩ := h.o2
  exact ⟨h.bel.trans (b.mono h.bel.size), h.b1.off k (f _), h.b2.off k (f _), h.l1.grown b, h.l2.grown b, ⟨B1, o1.off k (f _) (f _) (f _)⟩, ⟨B2, o2.off k (f _) (f _) (f _)⟩⟩
theorem below_drew (w : World) (n : Nat) : Below w.heap.size w (w.drewN n) := ⟨rfl, rfl, rfl, Nat.le_refl _, fun _ _ => rfl⟩
end

set_option maxRecDepth 20000 in
set_option maxHeartbeats 8000000 in
theorem same_cf {B B' : Nat} {w : World} {v v' : Value} {C : Cf} (h : CfV B w v C) (h' : CfV B' w v' C) :
    Calls Tryz.prog 9 #[v, v'] w fun e w' => e = .returned (.bool true) ∧ Below w.heap.size w w' := by
  obtain ⟨vL, vS, V1, rfl, hL, hS⟩ := h
  obtain ⟨vL', vS', V2, rfl, hL', hS'⟩ := h'
  obtain ⟨a1, c1, rfl⟩ := own_form hL
  obtain ⟨a2, c2, rfl⟩ := own_form hL'
  obtain ⟨s1, d1, rfl⟩ := own_form hS.own
  obtain ⟨s2, d2, rfl⟩ := own_form hS'.own
  obtain ⟨x0, x1, x2, x3, L, S⟩ := C
  simp only at hL hL' hS hS' ⊢
  have nl := own_len hL
  have ns := own_len hS.own
  obtain ⟨w0, hw0⟩ : ∃ w0, w0 = (w.alloc (.cells #[.int .i64 x0, .int .i64 x1, .int .i64 x2, .int .i64 x3, .slice a1 L.length c1, .slice s1 S.length d1] 25)).alloc (.cells #[.int .i64 x0, .int .i64 x1, .int .i64 x2, .int .i64 x3, .slice a2 L.length c2, .slice s2 S.length d2] 25) := ⟨_, rfl⟩
  have T0 : Two w w0 w.heap.size (w.heap.size + 1) x0 x1 x2 x3 a1 a2 s1 s2 c1 c2 d1 d2 L S V1 V2 := by
    have b0 : Below w.heap.size w w0 := by rw [hw0]; exact ((Below.refl _ _).alloc (Nat.le_refl _) _).alloc (by simp) _
    have k : Kept (fun _ => False) w w0 := Kept.of_below b0 _
    have f : ∀ t, Off t (fun _ => False) w := fun _ _ _ _ _ => id
    refine ⟨b0, ?_, ?_, (lv_rd hL).grown b0, (lv_rd hL').grown b0, ⟨B, hS.off k (f _) (f _) (f _)⟩, ⟨B', hS'.off k (f _) (f _) (f _)⟩⟩
    · rw [hw0]; exact (Blk.new w 25 _).kept (Kept.of_below ((Below.refl _ _).alloc (Nat.le_refl _) _) (fun _ => False)) id
    · have := Blk.new (w.alloc (.cells #[.int .i64 x0, .int .i64 x1, .int .i64 x2, .int .i64 x3, .slice a1 L.length c1, .slice s1 S.length d1] 25)) 25 #[.int .i64 x0, .int .i64 x1, .int .i64 x2, .int .i64 x3, .slice a2 L.length c2, .slice s2 S.length d2]
      rw [hw0]; simpa using this
  have HT : Hd _ := ⟨T0⟩
  obtain ⟨n, hn⟩ : ∃ n, n = L.length := ⟨_, rfl⟩
  obtain ⟨m, hm⟩ : ∃ m, m = S.length := ⟨_, rfl⟩
  rw [← hn] at nl
  rw [← hm] at ns
  have HN : Hd (n = L.length ∧ m = S.length) := ⟨hn, hm⟩
  rw [← hn, ← hm]
  rw [← hn, ← hm] at hw0
  clear T0 hL hL' hS hS' hn hm
  go_enter Tryz.func9, Tryz.ntmps9
  go_wp2_with fail
  rw [← hw0]
  clear hw0
  generalize w.heap.size + 1 = A2 at *
  obtain ⟨A1, hA1⟩ : ∃ A1, A1 = w.heap.size := ⟨_, rfl⟩
  have HT' : Hd (Two w w0 A1 A2 x0 x1 x2 x3 a1 a2 s1 s2 c1 c2 d1 d2 L S V1 V2) := ⟨by rw [hA1]; exact HT.out⟩
  rw [← hA1]
  clear HT hA1
  go_loopw [5] (fun i wr => ∃ k : Nat, k ≤ n ∧ i = .int .i64 k ∧ Hd (Two w wr A1 A2 x0 x1 x2 x3 a1 a2 s1 s2 c1 c2 d1 d2 L S V1 V2)) (fun i _ => n - (intOf i).toNat)
  case atStart => exact ⟨0, Nat.zero_le _, rfl, HT'⟩
  case round =>
    obtain ⟨k, hk, rfl, hT⟩ := hrel
    clear HT'
    have e1 : wr.cell? ⟨A1, 4, none⟩ = some (.slice a1 n c1) := by rw [HN.out.1]; exact hT.out.b1.cellv 4 rfl
    have e2 : wr.cell? ⟨A2, 4, none⟩ = some (.slice a2 n c2) := by rw [HN.out.1]; exact hT.out.b2.cellv 4 rfl
    by_cases hlt : k < n
    · have hkL : k < L.length := by rw [← HN.out.1]; exact hlt
      obtain ⟨g1, rfl, hg1, C1⟩ := hT.out.l1 (by omega)
      obtain ⟨g2, rfl, hg2, C2⟩ := hT.out.l2 (by omega)
      have x0' : wr.cell? ⟨g1, k * 10, none⟩ = some (.string L[k].name) := C1 k hkL 0 (by decide)
      have x1' : wr.cell? ⟨g1, k * 10 + 1, none⟩ = some (.int .i64 L[k].kind) := C1 k hkL 1 (by decide)
      have x2' : wr.cell? ⟨g1, k * 10 + 2, none⟩ = some (.int .i64 L[k].shares) := C1 k hkL 2 (by decide)
      have x3' : wr.cell? ⟨g1, k * 10 + 3, none⟩ = some (.int .i64 L[k].lend) := C1 k hkL 3 (by decide)
      have x4' : wr.cell? ⟨g1, k * 10 + 4, none⟩ = some (.int .i64 L[k].borrow) := C1 k hkL 4 (by decide)
      have x5' : wr.cell? ⟨g1, k * 10 + 5, none⟩ = some (.int .i64 L[k].queues) := C1 k hkL 5 (by decide)
      have x6' : wr.cell? ⟨g1, k * 10 + 6, none⟩ = some (.int .i64 L[k].hand) := C1 k hkL 6 (by decide)
      have x7' : wr.cell? ⟨g1, k * 10 + 7, none⟩ = some (.int .i64 L[k].length) := C1 k hkL 7 (by decide)
      have x8' : wr.cell? ⟨g1, k * 10 + 8, none⟩ = some (.int .i64 L[k].wait) := C1 k hkL 8 (by decide)
      have x9' : wr.cell? ⟨g1, k * 10 + 9, none⟩ = some (.int .i64 L[k].guess) := C1 k hkL 9 (by decide)
      have y0' : wr.cell? ⟨g2, k * 10, none⟩ = some (.string L[k].name) := C2 k hkL 0 (by decide)
      have y1' : wr.cell? ⟨g2, k * 10 + 1, none⟩ = some (.int .i64 L[k].kind) := C2 k hkL 1 (by decide)
      have y2' : wr.cell? ⟨g2, k * 10 + 2, none⟩ = some (.int .i64 L[k].shares) := C2 k hkL 2 (by decide)
      have y3' : wr.cell? ⟨g2, k * 10 + 3, none⟩ = some (.int .i64 L[k].lend) := C2 k hkL 3 (by decide)
      have y4' : wr.cell? ⟨g2, k * 10 + 4, none⟩ = some (.int .i64 L[k].borrow) := C2 k hkL 4 (by decide)
      have y5' : wr.cell? ⟨g2, k * 10 + 5, none⟩ = some (.int .i64 L[k].queues) := C2 k hkL 5 (by decide)
      have y6' : wr.cell? ⟨g2, k * 10 + 6, none⟩ = some (.int .i64 L[k].hand) := C2 k hkL 6 (by decide)
      have y7' : wr.cell? ⟨g2, k * 10 + 7, none⟩ = some (.int .i64 L[k].length) := C2 k hkL 7 (by decide)
      have y8' : wr.cell? ⟨g2, k * 10 + 8, none⟩ = some (.int .i64 L[k].wait) := C2 k hkL 8 (by decide)
      have y9' : wr.cell? ⟨g2, k * 10 + 9, none⟩ = some (.int .i64 L[k].guess) := C2 k hkL 9 (by decide)
      have HK : Hd (k < n) := ⟨hlt⟩
      clear C1 C2
      generalize L[k] = l at *
      clear hkL
      obtain ⟨q0, q1, q2, q3, q4, q5, q6, q7, q8, q9⟩ := l
      go_wp2_with fail
      go_big_quiet (fail)
      go_wp2
      go_roundw
      case rel => exact ⟨k + 1, HK.out, by go_num, ⟨hT.out.grown (below_drew _ _)⟩⟩
      case measure => have := HK.out; simp [intOf]; omega
    · obtain rfl : k = n := by omega
      go_wp2_with fail
      go_loopw [6] (fun i wr => ∃ j : Nat, j ≤ m ∧ i = .int .i64 j ∧ Hd (Two w wr A1 A2 x0 x1 x2 x3 a1 a2 s1 s2 c1 c2 d1 d2 L S V1 V2)) (fun i _ => m - (intOf i).toNat)
      case atStart => exact ⟨0, Nat.zero_le _, rfl, hT⟩
      case round =>
        obtain ⟨j, hj, rfl, hU⟩ := hrel
        clear hT e1 e2
        have f1 : wr.cell? ⟨A1, 5, none⟩ = some (.slice s1 m d1) := by rw [HN.out.2]; exact hU.out.b1.cellv 5 rfl
        have f2 : wr.cell? ⟨A2, 5, none⟩ = some (.slice s2 m d2) := by rw [HN.out.2]; exact hU.out.b2.cellv 5 rfl
        by_cases hlt : j < m
        · have hjS : j < S.length := by rw [← HN.out.2]; exact hlt
          obtain ⟨B1, O1⟩ := hU.out.o1
          obtain ⟨B2, O2⟩ := hU.out.o2
          have hj1 : j < V1.length := by rw [O1.len]; exact hjS
          have hj2 : j < V2.length := by rw [O2.len]; exact hjS
          obtain ⟨g1, rfl, hg1, C1⟩ := sc_rd O1 (by omega)
          obtain ⟨g2, rfl, hg2, C2⟩ := sc_rd O2 (by omega)
          have R1 := O1.rls j hjS hj1
          have R2 := O2.rls j hjS hj2
          obtain ⟨ar, cr, er⟩ : ∃ a c, V1[j] = .slice a S[j].rules.length c := by obtain ⟨_, ho, _⟩ := R1; exact own_form ho
          obtain ⟨ar', cr', er'⟩ : ∃ a c, V2[j] = .slice a S[j].rules.length c := by obtain ⟨_, ho, _⟩ := R2; exact own_form ho
          rw [er] at R1
          rw [er'] at R2
          have x0' : wr.cell? ⟨g1, j * 5, none⟩ = some (.string S[j].name) := C1 j hjS hj1 0 (by decide)
          have x1' : wr.cell? ⟨g1, j * 5 + 1, none⟩ = some (.string S[j].level) := C1 j hjS hj1 1 (by decide)
          have x2' : wr.cell? ⟨g1, j * 5 + 2, none⟩ = some (.int .i64 S[j].rank) := C1 j hjS hj1 2 (by decide)
          have x3' : wr.cell? ⟨g1, j * 5 + 3, none⟩ = some (.int .i64 S[j].way) := C1 j hjS hj1 3 (by decide)
          have x4' : wr.cell? ⟨g1, j * 5 + 4, none⟩ = some (.slice ar S[j].rules.length cr) := (C1 j hjS hj1 4 (by decide)).trans (congrArg some er)
          have y0' : wr.cell? ⟨g2, j * 5, none⟩ = some (.string S[j].name) := C2 j hjS hj2 0 (by decide)
          have y1' : wr.cell? ⟨g2, j * 5 + 1, none⟩ = some (.string S[j].level) := C2 j hjS hj2 1 (by decide)
          have y2' : wr.cell? ⟨g2, j * 5 + 2, none⟩ = some (.int .i64 S[j].rank) := C2 j hjS hj2 2 (by decide)
          have y3' : wr.cell? ⟨g2, j * 5 + 3, none⟩ = some (.int .i64 S[j].way) := C2 j hjS hj2 3 (by decide)
          have y4' : wr.cell? ⟨g2, j * 5 + 4, none⟩ = some (.slice ar' S[j].rules.length cr') := (C2 j hjS hj2 4 (by decide)).trans (congrArg some er')
          have SR : Hd (∀ W, Below wr.heap.size wr W → Calls Tryz.prog 20 #[.slice ar S[j].rules.length cr, .slice ar' S[j].rules.length cr'] W fun e w' => e = .returned (.bool true) ∧ ∃ q, w' = W.drewN q) := ⟨fun W b => by
            have k : Kept (fun _ => False) wr W := Kept.of_below b _
            have f : ∀ t, Off t (fun _ => False) wr := fun _ _ _ _ _ => id
            exact samer_q (R1.off k (f _) (f _)) (R2.off k (f _) (f _))⟩
          have hA1 := hU.out.b1.lt
          have hA2 := hU.out.b2.lt
          have HJ : Hd (j < m) := ⟨hlt⟩
          have HU : Hd (∀ W, Below wr.heap.size wr W → Two w W A1 A2 x0 x1 x2 x3 a1 a2 (some ⟨g1, 0, none⟩) (some ⟨g2, 0, none⟩) c1 c2 d1 d2 L S V1 V2) := ⟨fun W b => hU.out.grown b⟩
          clear C1 C2 O1 O2 R1 R2 er er' hU
          generalize S[j] = s at *
          clear hjS hj1 hj2
          obtain ⟨q0, q1, q2, q3, q4⟩ := s
          simp only at SR x0' x1' x2' x3' x4' y0' y1' y2' y3' y4'
          generalize q4.length = nq4 at *
          have BX1 : Hd (Below wr.heap.size wr ((wr.alloc (.cells #[.string q0, .string q1, .int .i64 q2, .int .i64 q3, .slice ar nq4 cr] 41)).alloc (.cells #[.string q0, .string q1, .int .i64 q2, .int .i64 q3, .slice ar' nq4 cr'] 41)).drew) := ⟨(((Below.refl _ _).alloc (Nat.le_refl _) _).alloc (by simp) _).drew⟩
          have BX2 : Hd (Below wr.heap.size wr ((wr.alloc (.cells #[.string q0, .string q1, .int .i64 q2, .int .i64 q3, .slice ar' nq4 cr'] 41)).alloc (.cells #[.string q0, .string q1, .int .i64 q2, .int .i64 q3, .slice ar nq4 cr] 41)).drew) := ⟨(((Below.refl _ _).alloc (Nat.le_refl _) _).alloc (by simp) _).drew⟩
          have BY1 : Hd (∀ q, Below wr.heap.size wr (World.drewN _ q)) := ⟨fun q => BX1.out.trans ⟨rfl, rfl, rfl, Nat.le_refl _, fun _ _ => rfl⟩⟩
          have BY2 : Hd (∀ q, Below wr.heap.size wr (World.drewN _ q)) := ⟨fun q => BX2.out.trans ⟨rfl, rfl, rfl, Nat.le_refl _, fun _ _ => rfl⟩⟩
          go_wp2_with fail
          go_region_held (fun w' => (w'.cell? ⟨A1, 5, none⟩ = some (.slice (some ⟨g1, 0, none⟩) m d1) ∧ w'.cell? ⟨A2, 5, none⟩ = some (.slice (some ⟨g2, 0, none⟩) m d2)) ∧ (w'.cell? ⟨g1, j * 5, none⟩ = some (.string q0) ∧ w'.cell? ⟨g1, j * 5 + 1, none⟩ = some (.string q1) ∧ w'.cell? ⟨g1, j * 5 + 2, none⟩ = some (.int .i64 q2) ∧ w'.cell? ⟨g1, j * 5 + 3, none⟩ = some (.int .i64 q3) ∧ w'.cell? ⟨g1, j * 5 + 4, none⟩ = some (.slice ar nq4 cr)) ∧ (w'.cell? ⟨g2, j * 5, none⟩ = some (.string q0) ∧ w'.cell? ⟨g2, j * 5 + 1, none⟩ = some (.string q1) ∧ w'.cell? ⟨g2, j * 5 + 2, none⟩ = some (.int .i64 q2) ∧ w'.cell? ⟨g2, j * 5 + 3, none⟩ = some (.int .i64 q3) ∧ w'.cell? ⟨g2, j * 5 + 4, none⟩ = some (.slice ar' nq4 cr'))) (go_keep) (fail)
          all_goals
            go_wp2_with (go_at_call 20; refine (SR.out _ (by first | exact BX1.out | exact BX2.out)).mono ?_; rintro e w5 ⟨rfl, q, rfl⟩)
            go_roundw
            case rel => exact ⟨j + 1, HJ.out, by go_num, ⟨by first | exact HU.out _ (BY1.out _) | exact HU.out _ (BY2.out _)⟩⟩
            case measure => have := HJ.out; simp [intOf]; omega
        · obtain rfl : j = m := by omega
          have R : Hd (Below w.heap.size w wr) := ⟨hU.out.bel⟩
          clear hU
          go_wp2_with fail
          go_ret
          exact ⟨rfl, R.out⟩


end Go.Proofs.YtfollcabppkihaaGreatDoor
