/-
  Find, by the program and by the reference. Conditions: the book lies in memory, and is short.
-/
import Derived.Test.YtomkmgebbiahcaaBi
namespace Go.Proofs.Ytomkmgebbiahcaa
open Go.RowKit

/-- An entry, as a value. -/
def enV (t : En) : Value := .agg #[.int .i64 t.id, .int .i64 t.ph, .string t.lv]
def fdV (d : Int) (L : List En) : Value := .tuple #[enV (fE d L), .bool (fB d L)]
theorem res12 (tmps : Array Value) (w : World) (g : Nat) {t : En} (b : Bool) (ht : tmps[4]?.getD undef = .pointer (some ⟨g, 0, none⟩)) (hb : tmps[5]?.getD undef = .bool b) (h : Blk w g 24 (enA t)) :
    (results Try.f12 tmps).run Try.prog w = .ok (.tuple #[enV t, .bool b]) w := by
  obtain ⟨⟨c0, c1, c2⟩, -⟩ := h.three
  simp [results, Try.results12, go_sem, ht, hb, c0, c1, c2, enV]
theorem res13 (tmps : Array Value) (w : World) (g : Nat) {t : En} (b : Bool) (ht : tmps[4]?.getD undef = .pointer (some ⟨g, 0, none⟩)) (hb : tmps[5]?.getD undef = .bool b) (h : Blk w g 24 (enA t)) :
    (results Try.f13 tmps).run Try.prog w = .ok (.tuple #[enV t, .bool b]) w := by
  obtain ⟨⟨c0, c1, c2⟩, -⟩ := h.three
  simp [results, Try.results13, go_sem, ht, hb, c0, c1, c2, enV]
theorem fd_no {d : Int} {L : List En} (h : fB d L = false) : fdV d L = .tuple #[enV enZ, .bool false] := by
  unfold fdV; rw [fE_no h, h]
theorem fd_yes {d : Int} {L : List En} (h : fB d L = true) : fdV d L = .tuple #[enV (ge L (fI d L)), .bool true] := by
  unfold fdV fE; rw [h]
/-- A new box that was written. -/
theorem box_put {w w2 : World} {g : Nat} (h : Blk w2 g 24 (enA enZ)) (b : Below w.heap.size w w2) (hg : w.heap.size ≤ g) (t : En) :
    Blk (((w2.setCell ⟨g, 0, none⟩ (.int .i64 t.id)).setCell ⟨g, 1, none⟩ (.int .i64 t.ph)).setCell ⟨g, 2, none⟩ (.string t.lv)) g 24 (enA t)
    ∧ Below w.heap.size w (((w2.setCell ⟨g, 0, none⟩ (.int .i64 t.id)).setCell ⟨g, 1, none⟩ (.int .i64 t.ph)).setCell ⟨g, 2, none⟩ (.string t.lv)) := by
  obtain ⟨x, k⟩ := three_set h t
  exact ⟨x, b.trans (k.below b.size (fun j e => by rw [e]; exact hg))⟩

set_option maxRecDepth 20000 in
set_option maxHeartbeats 1000000 in
theorem find_ok (a : Option Addr) (c : Nat) (L : List En) (d : Int) (w : World) (h : EnR w a L) (hl : L.length ≤ 4000) :
    Calls Try.prog 12 #[.slice a L.length c, .int .i64 d] w fun e w' => e = .returned (fdV d L) ∧ Below w.heap.size w w' := by
  obtain ⟨w1, hw1⟩ : ∃ w1, w1 = w.alloc (.cells #[.int .i64 0, .int .i64 0, .string ⟨#[]⟩] 24) := ⟨_, rfl⟩
  have B : Hd (Below w.heap.size w w1) := ⟨by rw [hw1]; exact alloc_below _ _⟩
  have N1 : Hd (Blk w1 w.heap.size 24 (enA enZ)) := ⟨by rw [hw1]; exact Blk.new _ _ _⟩
  have P := place_ok a c L d w1 (h.carry B.out) hl
  have H : Hd (∀ W, Below w1.heap.size w1 W → EnR W a L ∧ Blk W w.heap.size 24 (enA enZ) ∧ Below w.heap.size w W) := ⟨fun W b => ⟨(h.carry B.out).carry b, N1.out.kept (Kept.of_below b (fun _ => False)) id, B.out.trans (b.mono B.out.size)⟩⟩
  clear h
  by_cases hb : fB d L = true
  · have hlt := fB_yes hb
    rw [show ixI d L = (fI d L : Int) from by unfold ixI; rw [if_pos hb]] at P
    have E : Hd (fdV d L = _) := ⟨fd_yes hb⟩
    obtain ⟨n, hn⟩ : ∃ n, n = L.length := ⟨_, rfl⟩
    have HN : Hd (n = L.length) := ⟨hn⟩
    generalize fI d L = k at *
    rw [← hn] at P hl hlt ⊢
    clear hn hb
    go_enter Try.func12, Try.ntmps12
    go_upto_region 1 with fail
    rw [← hw1]
    clear hw1
    go_upto_region 4 with (go_at_call 17; refine P.mono ?_; rintro e w2 ⟨rfl, b2⟩)
    obtain ⟨hR, hG, hB⟩ := H.out w2 b2
    obtain ⟨b, off, rfl, -, d0, d1, d2⟩ := hR.at (k := k) (by rw [← HN.out]; exact hlt)
    obtain ⟨⟨c0, c1, c2⟩, f0, f1, f2⟩ := hG.three
    have R := box_put hG hB (Nat.le_refl _) (ge L k)
    have RR : Hd (_ ∧ _) := ⟨R⟩
    clear R hG hB hR b2 N1
    generalize ge L k = z at *
    obtain ⟨z0, z1, z2⟩ := z
    simp only at d0 d1 d2 RR
    go_wp2
    refine bodyPost_ret (res12 (t := ⟨z0, z1, z2⟩) _ _ _ true rfl rfl RR.out.1) rfl ?_
    exact ⟨by rw [E.out], RR.out.2⟩
  · have hb : fB d L = false := by simpa using hb
    rw [show ixI d L = -1 from by unfold ixI; rw [hb]; rfl] at P
    have E : Hd (fdV d L = _) := ⟨fd_no hb⟩
    obtain ⟨n, hn⟩ : ∃ n, n = L.length := ⟨_, rfl⟩
    rw [← hn] at P hl ⊢
    clear hn hb
    go_enter Try.func12, Try.ntmps12
    go_upto_region 1 with fail
    rw [← hw1]
    clear hw1
    go_upto_region 3 with (go_at_call 17; refine P.mono ?_; rintro e w2 ⟨rfl, b2⟩)
    obtain ⟨hR, hG, hB⟩ := H.out w2 b2
    obtain ⟨⟨c0, c1, c2⟩, f0, f1, f2⟩ := hG.three
    have R := box_put hG hB (Nat.le_refl _) enZ
    have RR : Hd (_ ∧ _) := ⟨R⟩
    clear R hG hB hR b2 N1
    go_wp2
    refine bodyPost_ret (res12 (t := enZ) _ _ _ false rfl rfl RR.out.1) rfl ?_
    exact ⟨by rw [E.out], RR.out.2⟩

set_option maxRecDepth 20000 in
set_option maxHeartbeats 1000000 in
theorem rfind_ok (a : Option Addr) (c : Nat) (L : List En) (d : Int) (w : World) (h : EnR w a L) (hl : L.length ≤ 4000) :
    Calls Try.prog 13 #[.slice a L.length c, .int .i64 d] w fun e w' => e = .returned (fdV d L) ∧ Below w.heap.size w w' := by
  obtain ⟨w1, hw1⟩ : ∃ w1, w1 = w.alloc (.cells #[.int .i64 0, .int .i64 0, .string ⟨#[]⟩] 24) := ⟨_, rfl⟩
  have B : Hd (Below w.heap.size w w1) := ⟨by rw [hw1]; exact alloc_below _ _⟩
  have N1 : Hd (Blk w1 w.heap.size 24 (enA enZ)) := ⟨by rw [hw1]; exact Blk.new _ _ _⟩
  have H : Hd (EnR w1 a L) := ⟨h.carry B.out⟩
  have HX : Hd ((∀ k, k < L.length → (ge L k).id = d → (∀ j, j < k → (ge L j).id ≠ d) → fdV d L = .tuple #[enV (ge L k), .bool true]) ∧ ((∀ j, j < L.length → (ge L j).id ≠ d) → fdV d L = .tuple #[enV enZ, .bool false])) := ⟨fun k hk e hno => by
      have := fI_is hk hno e
      rw [fd_yes (by unfold fB; rw [this]; exact decide_eq_true hk), this], fun hno => by
      have := fI_none hno
      rw [fd_no (by unfold fB; rw [this]; exact decide_eq_false (Nat.lt_irrefl _))]⟩
  clear h
  obtain ⟨n, hn⟩ : ∃ n, L.length = n := ⟨_, rfl⟩
  have HL : Hd (L.length = n) := ⟨hn⟩
  rw [hn] at hl HX ⊢
  clear hn
  go_enter Try.func13, Try.ntmps13
  go_upto_region 1 with fail
  rw [← hw1]
  clear hw1
  go_wp2_with fail
  go_loopw [6] (fun i wr => wr = w1 ∧ ∃ k : Nat, k ≤ n ∧ i = .int .i64 k ∧ Hd (∀ j, j < k → (ge L j).id ≠ d)) (fun i _ => n - (intOf i).toNat)
  case atStart => exact ⟨rfl, 0, Nat.zero_le _, rfl, ⟨fun j h => absurd h (Nat.not_lt_zero _)⟩⟩
  case round =>
    obtain ⟨rfl, k, hk, rfl, hno⟩ := hrel
    by_cases hlt : k < n
    · obtain ⟨b, off, rfl, -, d0, d1, d2⟩ := H.out.at (k := k) (by rw [HL.out]; exact hlt)
      have HT : Hd ((ge L k).id = d → fdV d L = .tuple #[enV (ge L k), .bool true]) := ⟨fun e => HX.out.1 k hlt e hno.out⟩
      have HF : Hd ((ge L k).id ≠ d → ∀ j, j < k + 1 → (ge L j).id ≠ d) := ⟨fun e j hj => by
        rcases Nat.lt_or_eq_of_le (Nat.le_of_lt_succ hj) with h1 | h1
        · exact hno.out j h1
        · subst h1; exact e⟩
      clear hno
      by_cases e : (ge L k).id = d
      · have A : Hd _ := ⟨HT.out e⟩
        have R := box_put N1.out B.out (Nat.le_refl _) (ge L k)
        have RR : Hd (_ ∧ _) := ⟨R⟩
        obtain ⟨⟨c0, c1, c2⟩, f0, f1, f2⟩ := N1.out.three
        have e' : ((ge L k).id == d) = true := by simpa using e
        clear HT HF R N1
        generalize ge L k = z at *
        obtain ⟨z0, z1, z2⟩ := z
        simp only at d0 d1 d2 e' RR
        clear e
        go_wp2
        refine bodyPost_ret (res13 (t := ⟨z0, z1, z2⟩) _ _ _ true rfl rfl RR.out.1) rfl ?_
        exact ⟨by rw [A.out], RR.out.2⟩
      · have A : Hd (∀ j, j < k + 1 → (ge L j).id ≠ d) := ⟨HF.out e⟩
        have e' : ((ge L k).id == d) = false := by simpa using e
        clear HT HF
        generalize ge L k = z at *
        obtain ⟨z0, z1, z2⟩ := z
        simp only at d0 d1 d2 e'
        clear e
        go_wp2
        go_roundw
        case rel => exact ⟨trivial, k + 1, by omega, by go_num, A⟩
        case measure => simp [intOf]; omega
    · obtain rfl : k = n := by omega
      have A : Hd _ := ⟨HX.out.2 hno.out⟩
      have R := box_put N1.out B.out (Nat.le_refl _) enZ
      have RR : Hd (_ ∧ _) := ⟨R⟩
      obtain ⟨⟨c0, c1, c2⟩, f0, f1, f2⟩ := N1.out.three
      clear hno R N1
      go_wp2
      refine bodyPost_ret (res13 (t := enZ) _ _ _ false rfl rfl RR.out.1) rfl ?_
      exact ⟨by rw [A.out], RR.out.2⟩
end Go.Proofs.Ytomkmgebbiahcaa
