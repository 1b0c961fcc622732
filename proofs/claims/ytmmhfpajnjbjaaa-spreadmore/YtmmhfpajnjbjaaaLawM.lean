/-
  What 'SpreadMore' of the statements answers: true, for every total and all lists that lie in memory. Condition: the total is an int.
-/
import Derived.Test.YtmmhfpajnjbjaaaWalkD
namespace Go.Proofs.Ytmmhfpajnjbjaaa
open Go.RowKit

theorem int_of_wf {x : Int} (h : (Lit.int .i64 x).wf = true) : -9223372036854775808 ≤ x := by
  simp [Lit.wf, IntKind.min, IntKind.signed, IntKind.bits] at h
  omega

theorem part_more {total : Int} {n : Nat} {lo hi want : Nat → Int} (h : Fits total n lo hi want) (i : Nat) :
    part (total + 1) n lo hi want i = part total n lo hi want i ∨ part (total + 1) n lo hi want i = part total n lo hi want i + 1 := by
  have hl := h.least
  have e : (total + 1 - sumTo lo n).toNat = (total - sumTo lo n).toNat + 1 := by omega
  unfold part
  rw [e]
  simp only [give]
  by_cases c : i = (nxt (give n hi want lo (total - sumTo lo n).toNat) hi want n).toNat
  · right; rw [← c, upd_same]
  · left; rw [upd_other c]

theorem more_far (total : Int) (a b d : Option Addr) (n m l c1 c2 c3 : Nat) (w : World) (h : 4096 ≤ total) :
    Calls Try.prog 6 #[.int .i64 total, .slice a n c1, .slice b m c2, .slice d l c3] w fun e w' => e = .returned (.bool true) ∧ Below w.heap.size w w' := by
  go_enter Try.func6, Try.ntmps6
  go_wp2_with (go_at_call 9; refine (awake_any _).mono ?_; rintro e w1 ⟨rfl, hb1⟩)
  go_ret; exact ⟨rfl, hb1⟩

set_option maxRecDepth 20000 in
set_option maxHeartbeats 1000000 in
theorem more_none (total : Int) (a b d : Option Addr) (n m l c1 c2 c3 : Nat) (lo hi want : Nat → Int) (w : World) (r1 : Row w a n lo) (r2 : Row w b m hi) (r3 : Row w d l want) (ht : total < 4096) (ht2 : -9223372036854775808 ≤ total)
    (h : (refI total n m l lo hi want == 0) = false) (h2 : (refI (total + 1) n m l lo hi want == 0) = false) :
    Calls Try.prog 6 #[.int .i64 total, .slice a n c1, .slice b m c2, .slice d l c3] w fun e w' => e = .returned (.bool true) ∧ Below w.heap.size w w' := by
  have h' : (refI total n m l lo hi want != 0) = true := by simpa using h
  have h2' : (refI (total + 1) n m l lo hi want != 0) = true := by simpa using h2
  go_enter Try.func6, Try.ntmps6
  go_wp2_with (go_at_call 9; refine (awake_any _).mono ?_; rintro e w1 ⟨rfl, hb1⟩)
  go_at_call 12
  refine (spread_no _ _ _ _ _ _ _ _ _ _ _ _ _ _ (r1.carry hb1) (r2.carry hb1) (r3.carry hb1) h).mono ?_
  rintro e w2 ⟨rfl, hb2⟩
  have hb3 := hb1.trans (hb2.mono hb1.size)
  go_wp2_with fail
  go_at_call 12
  refine (spread_no _ _ _ _ _ _ _ _ _ _ _ _ _ _ (r1.carry hb3) (r2.carry hb3) (r3.carry hb3) h2).mono ?_
  rintro e w3 ⟨rfl, hb4⟩
  clear r1 r2 r3
  go_wp2
  go_ret; exact ⟨rfl, hb3.trans (hb4.mono hb3.size)⟩

set_option maxRecDepth 20000 in
set_option maxHeartbeats 1000000 in
theorem more_first (total : Int) (a b d : Option Addr) (n c1 c2 c3 : Nat) (lo hi want : Nat → Int) (w : World) (r1 : Row w a n lo) (r2 : Row w b n hi) (r3 : Row w d n want) (ht : total < 4096) (ht2 : -9223372036854775808 ≤ total)
    (hf : Fits total n lo hi want) (h2 : (refI (total + 1) n n n lo hi want == 0) = false) :
    Calls Try.prog 6 #[.int .i64 total, .slice a n c1, .slice b n c2, .slice d n c3] w fun e w' => e = .returned (.bool true) ∧ Below w.heap.size w w' := by
  have h2' : (refI (total + 1) n n n lo hi want != 0) = true := by simpa using h2
  go_enter Try.func6, Try.ntmps6
  go_wp2_with (go_at_call 9; refine (awake_any _).mono ?_; rintro e w1 ⟨rfl, hb1⟩)
  go_at_call 12
  refine (spread_yes _ _ _ _ _ _ _ _ _ _ _ _ (r1.carry hb1) (r2.carry hb1) (r3.carry hb1) hf).mono ?_
  rintro e w2 ⟨g, rfl, hg, o1, hb2⟩
  have hb3 := hb1.trans (hb2.mono hb1.size)
  go_wp2_with fail
  go_at_call 12
  refine (spread_no _ _ _ _ _ _ _ _ _ _ _ _ _ _ (r1.carry hb3) (r2.carry hb3) (r3.carry hb3) h2).mono ?_
  rintro e w3 ⟨rfl, hb4⟩
  clear r1 r2 r3 o1
  go_wp2
  go_ret; exact ⟨rfl, hb3.trans (hb4.mono hb3.size)⟩

set_option maxRecDepth 20000 in
set_option maxHeartbeats 1000000 in
theorem more_second (total : Int) (a b d : Option Addr) (n c1 c2 c3 : Nat) (lo hi want : Nat → Int) (w : World) (r1 : Row w a n lo) (r2 : Row w b n hi) (r3 : Row w d n want) (ht : total < 4096) (ht2 : -9223372036854775808 ≤ total)
    (h : (refI total n n n lo hi want == 0) = false) (hf : Fits (total + 1) n lo hi want) :
    Calls Try.prog 6 #[.int .i64 total, .slice a n c1, .slice b n c2, .slice d n c3] w fun e w' => e = .returned (.bool true) ∧ Below w.heap.size w w' := by
  have h' : (refI total n n n lo hi want != 0) = true := by simpa using h
  go_enter Try.func6, Try.ntmps6
  go_wp2_with (go_at_call 9; refine (awake_any _).mono ?_; rintro e w1 ⟨rfl, hb1⟩)
  go_at_call 12
  refine (spread_no _ _ _ _ _ _ _ _ _ _ _ _ _ _ (r1.carry hb1) (r2.carry hb1) (r3.carry hb1) h).mono ?_
  rintro e w2 ⟨rfl, hb2⟩
  have hb3 := hb1.trans (hb2.mono hb1.size)
  go_wp2_with fail
  go_at_call 12
  refine (spread_yes _ _ _ _ _ _ _ _ _ _ _ _ (r1.carry hb3) (r2.carry hb3) (r3.carry hb3) hf).mono ?_
  rintro e w3 ⟨g, rfl, hg, o1, hb4⟩
  clear r1 r2 r3 o1
  go_wp2
  go_ret; exact ⟨rfl, hb3.trans (hb4.mono hb3.size)⟩

set_option maxRecDepth 20000 in
set_option maxHeartbeats 2000000 in
theorem more_both (total : Int) (a b d : Option Addr) (n c1 c2 c3 : Nat) (lo hi want : Nat → Int) (w : World) (r1 : Row w a n lo) (r2 : Row w b n hi) (r3 : Row w d n want) (ht : total < 4096)
    (hf : Fits total n lo hi want) (hf2 : Fits (total + 1) n lo hi want) :
    Calls Try.prog 6 #[.int .i64 total, .slice a n c1, .slice b n c2, .slice d n c3] w fun e w' => e = .returned (.bool true) ∧ Below w.heap.size w w' := by
  have hlen := hf.len
  have hlow := hf.low
  go_enter Try.func6, Try.ntmps6
  go_wp2_with (go_at_call 9; refine (awake_any _).mono ?_; rintro e w1 ⟨rfl, hb1⟩)
  go_at_call 12
  refine (spread_yes _ _ _ _ _ _ _ _ _ _ _ _ (r1.carry hb1) (r2.carry hb1) (r3.carry hb1) hf).mono ?_
  rintro e w2 ⟨g, rfl, hg, o1, hb2⟩
  have hb3 := hb1.trans (hb2.mono hb1.size)
  go_wp2_with fail
  go_at_call 12
  refine (spread_yes _ _ _ _ _ _ _ _ _ _ _ _ (r1.carry hb3) (r2.carry hb3) (r3.carry hb3) hf2).mono ?_
  rintro e w3 ⟨g2, rfl, hg2, o2, hb4⟩
  have o3 := o1.carry hb4
  have hb5 := hb3.trans (hb4.mono hb3.size)
  have hmore := part_more hf
  have hs1 := hf.sum
  have hs2 := hf2.sum
  have hp1 : ∀ k, k < n → 0 ≤ part total n lo hi want k ∧ part total n lo hi want k ≤ 4096 := fun k hk => by have := hf.last.between k hk; have := hf.each k hk; omega
  have hp2 : ∀ k, k < n → 0 ≤ part (total + 1) n lo hi want k ∧ part (total + 1) n lo hi want k ≤ 4096 := fun k hk => by have := hf2.last.between k hk; have := hf.each k hk; omega
  clear r1 r2 r3 o1 hb1 hb2 hb3 hb4 hf hf2 hg hg2
  generalize part total n lo hi want = p at *
  generalize part (total + 1) n lo hi want = q at *
  go_wp2
  go_loopw [13, 14] (fun s i wr => ∃ k : Nat, k ≤ n ∧ i = .int .i64 k ∧ s = .int .i64 (sumTo q k - sumTo p k) ∧ Below w3.heap.size w3 wr) (fun _ i _ => n - (intOf i).toNat)
  case atStart => exact ⟨0, Nat.zero_le _, rfl, rfl, Below.refl _ _⟩
  case round =>
    obtain ⟨k, hk, rfl, rfl, hb6⟩ := hrel
    obtain ⟨hs3, hs4⟩ := sumTo_le hp1 k hk
    obtain ⟨hs5, hs6⟩ := sumTo_le hp2 k hk
    by_cases hlt : k < n
    · have d1 := (hb6.cell (p := ⟨g, k, none⟩) o3.1).trans (o3.2 k hlt).1
      have d2 := (hb6.cell (p := ⟨g2, k, none⟩) o2.1).trans (o2.2 k hlt).1
      have hm := hmore k
      obtain ⟨v1, v2⟩ := hp1 k hlt
      obtain ⟨v3, v4⟩ := hp2 k hlt
      have i1 : (k : Int) < (n : Int) := by omega
      clear o2 o3 hmore hp1 hp2 hs1 hs2
      by_cases t : q k = p k
      · have g1 : (q k != p k) = false := by simpa using t
        clear hm t
        go_wp2
        go_quiet (fail)
        go_wp2
        go_quiet (fail)
        go_wp2
        go_roundw
        case rel => exact ⟨k + 1, by omega, by go_num, by simp [sumTo]; omega, ⟨hb6.os, hb6.tape, hb6.output, hb6.size, hb6.block⟩⟩
        case measure => simp [intOf]; omega
      · have g1 : (q k != p k) = true := by simpa using t
        have g2 : (q k != p k + 1) = false := by simp; omega
        clear hm t
        go_wp2
        go_quiet (fail)
        go_wp2
        go_quiet (fail)
        go_wp2
        go_roundw
        case rel => exact ⟨k + 1, by omega, by go_num, by simp [sumTo]; omega, ⟨hb6.os, hb6.tape, hb6.output, hb6.size, hb6.block⟩⟩
        case measure => simp [intOf]; omega
    · obtain rfl : k = n := by omega
      rw [hs1, hs2]
      have e1 : total + 1 - total = 1 := by omega
      rw [e1]
      clear o2 o3 hmore hp1 hp2 hs1 hs2 hs3 hs4 hs5 hs6
      go_wp2
      go_ret
      exact ⟨rfl, hb5.trans (hb6.mono hb5.size)⟩

theorem more_any (total : Int) (a b d : Option Addr) (n m l c1 c2 c3 : Nat) (lo hi want : Nat → Int) (w : World) (r1 : Row w a n lo) (r2 : Row w b m hi) (r3 : Row w d l want) (h0 : -9223372036854775808 ≤ total) :
    Calls Try.prog 6 #[.int .i64 total, .slice a n c1, .slice b m c2, .slice d l c3] w fun e w' => e = .returned (.bool true) ∧ Below w.heap.size w w' := by
  by_cases t : 4096 ≤ total
  · exact more_far _ _ _ _ _ _ _ _ _ _ _ t
  have t' : total < 4096 := by omega
  by_cases z : refI total n m l lo hi want = 0
  · obtain ⟨rfl, rfl, hf⟩ := refI_zero z
    by_cases z2 : refI (total + 1) n n n lo hi want = 0
    · exact more_both _ _ _ _ _ _ _ _ _ _ _ _ r1 r2 r3 t' hf (refI_zero z2).2.2
    · exact more_first _ _ _ _ _ _ _ _ _ _ _ _ r1 r2 r3 t' h0 hf (by simpa using z2)
  · by_cases z2 : refI (total + 1) n m l lo hi want = 0
    · obtain ⟨rfl, rfl, hf⟩ := refI_zero z2
      exact more_second _ _ _ _ _ _ _ _ _ _ _ _ r1 r2 r3 t' h0 (by simpa using z) hf
    · exact more_none _ _ _ _ _ _ _ _ _ _ _ _ _ _ r1 r2 r3 t' h0 (by simpa using z) (by simpa using z2)
end Go.Proofs.Ytmmhfpajnjbjaaa
