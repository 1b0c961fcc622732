/-
  New lanes, by the program and by the reference. No condition.
-/
import Derived.Test.YtemmkkcfjhmomabFw
import Derived.Test.YtemmkkcfjhmomabFr
import Derived.Test.YtemmkkcfjhmomabFh
namespace Go.Proofs.Ytemmkkcfjhmomab
open Go.RowKit

theorem resFn12 (tmps : Array Value) (w : World) (b : Nat) {r g n o : Int} {a : Option Addr} {l c : Nat} (x : Value) (ht : tmps[6]?.getD undef = .pointer (some ⟨b, 0, none⟩)) (hx : tmps[7]?.getD undef = x) (h : Blk w b 25 (faA r g n o (.slice a l c))) :
    (results Try.f12 tmps).run Try.prog w = .ok (.tuple #[.agg #[.int .u64 r, .int .i64 g, .int .i64 n, .int .i64 o, .slice a l c], x]) w := by
  obtain ⟨⟨c0, c1, c2, c3, c4⟩, -⟩ := h.fair
  simp [results, Try.results12, go_sem, ht, hx, c0, c1, c2, c3, c4]
/-- Nothing but zeros. -/
abbrev faZ : Value := .agg #[.int .u64 0, .int .i64 0, .int .i64 0, .int .i64 0, .slice none 0 0]

set_option maxRecDepth 20000 in
set_option maxHeartbeats 1000000 in
theorem new_no (o g n : Int) (w : World) (h : ¬ Good o g n) : Calls Try.prog 12 #[.int .i64 o, .int .i64 g, .int .i64 n] w fun e w' => e = .returned (.tuple #[faZ, .int .i64 1]) ∧ Below w.heap.size w w' := by
  obtain ⟨w1, hw1⟩ : ∃ w1, w1 = w.alloc (.cells #[.int .u64 0, .int .i64 0, .int .i64 0, .int .i64 0, .slice none 0 0] 25) := ⟨_, rfl⟩
  have N1 : Blk w1 w.heap.size 25 (faA 0 0 0 0 (.slice none 0 0)) := by rw [hw1]; exact Blk.new _ _ _
  have B1 : Below w.heap.size w w1 := by rw [hw1]; exact alloc_below _ _
  have C1 : Hd (∀ w, Calls Try.prog 22 #[.int .i64 o, .int .i64 64] w fun e w' => e = .returned (.bool (decide (1 ≤ o ∧ o ≤ 64))) ∧ w' = w) := ⟨within_ok o 64⟩
  have C2 : Hd (∀ w, Calls Try.prog 22 #[.int .i64 g, .int .i64 1000] w fun e w' => e = .returned (.bool (decide (1 ≤ g ∧ g ≤ 1000))) ∧ w' = w) := ⟨within_ok g 1000⟩
  have C3 : Hd (∀ w, Calls Try.prog 22 #[.int .i64 n, .int .i64 64] w fun e w' => e = .returned (.bool (decide (1 ≤ n ∧ n ≤ 64))) ∧ w' = w) := ⟨within_ok n 64⟩
  obtain ⟨q1, k1⟩ := fair_set N1 0 0 0 0 (.slice none 0 0)
  obtain ⟨⟨y0, y1, y2, y3, y4⟩, yf0, yf1, yf2, yf3, yf4⟩ := N1.fair
  have HE : Hd (_ ∧ _) := ⟨q1, B1.trans (k1.below B1.size (fun j e => by omega))⟩
  clear N1 B1 q1 k1
  by_cases h1 : 1 ≤ o ∧ o ≤ 64
  · rw [decide_eq_true h1] at C1
    by_cases h2 : 1 ≤ g ∧ g ≤ 1000
    · rw [decide_eq_true h2] at C2
      have h3 : ¬ (1 ≤ n ∧ n ≤ 64) := fun h3 => h ⟨h1, h2, h3⟩
      rw [decide_eq_false h3] at C3
      clear h h1 h2 h3
      go_enter Try.func12, Try.ntmps12
      go_upto_region 1 with fail
      rw [← hw1]
      clear hw1
      go_wp2_with fail
      go_at_call 22
      refine (C1.out _).mono ?_
      rintro e w4 ⟨rfl, rfl⟩
      go_wp2_with fail
      go_at_call 22
      refine (C2.out _).mono ?_
      rintro e w4 ⟨rfl, rfl⟩
      go_wp2_with fail
      go_at_call 22
      refine (C3.out _).mono ?_
      rintro e w4 ⟨rfl, rfl⟩
      go_wp2_with fail
      refine bodyPost_ret (resFn12 _ _ _ (.int .i64 1) rfl rfl HE.out.1) rfl ?_
      exact ⟨rfl, HE.out.2⟩
    · rw [decide_eq_false h2] at C2
      clear h h1 h2 C3
      go_enter Try.func12, Try.ntmps12
      go_upto_region 1 with fail
      rw [← hw1]
      clear hw1
      go_wp2_with fail
      go_at_call 22
      refine (C1.out _).mono ?_
      rintro e w4 ⟨rfl, rfl⟩
      go_wp2_with fail
      go_at_call 22
      refine (C2.out _).mono ?_
      rintro e w4 ⟨rfl, rfl⟩
      go_wp2_with fail
      refine bodyPost_ret (resFn12 _ _ _ (.int .i64 1) rfl rfl HE.out.1) rfl ?_
      exact ⟨rfl, HE.out.2⟩
  · rw [decide_eq_false h1] at C1
    clear h h1 C2 C3
    go_enter Try.func12, Try.ntmps12
    go_upto_region 1 with fail
    rw [← hw1]
    clear hw1
    go_wp2_with fail
    go_at_call 22
    refine (C1.out _).mono ?_
    rintro e w4 ⟨rfl, rfl⟩
    go_wp2_with fail
    refine bodyPost_ret (resFn12 _ _ _ (.int .i64 1) rfl rfl HE.out.1) rfl ?_
    exact ⟨rfl, HE.out.2⟩

set_option maxRecDepth 20000 in
set_option maxHeartbeats 1000000 in
theorem new_yes (m : Nat) (g n : Int) (w : World) (h : Good m g n) : Calls Try.prog 12 #[.int .i64 m, .int .i64 g, .int .i64 n] w fun e w' => (∃ v, e = .returned (.tuple #[v, .int .i64 0]) ∧ FaO w' w.heap.size 0 g n m (nwF m) v) ∧ Below w.heap.size w w' := by
  obtain ⟨i0, hi, hz0, hz1, hz2⟩ := info_parts Try.info38
  obtain ⟨o, ho⟩ : ∃ o : Int, o = m := ⟨_, rfl⟩
  have HO : Hd (o = m) := ⟨ho⟩
  rw [← ho] at h
  obtain ⟨w1, hw1⟩ : ∃ w1, w1 = w.alloc (.cells #[.int .u64 0, .int .i64 0, .int .i64 0, .int .i64 0, .slice none 0 0] 25) := ⟨_, rfl⟩
  have N1 : Blk w1 w.heap.size 25 (faA 0 0 0 0 (.slice none 0 0)) := by rw [hw1]; exact Blk.new _ _ _
  have B1 : Below w.heap.size w w1 := by rw [hw1]; exact alloc_below _ _
  have C1 : Hd (∀ w, Calls Try.prog 22 #[.int .i64 o, .int .i64 64] w fun e w' => e = .returned (.bool (decide (1 ≤ o ∧ o ≤ 64))) ∧ w' = w) := ⟨within_ok o 64⟩
  have C2 : Hd (∀ w, Calls Try.prog 22 #[.int .i64 g, .int .i64 1000] w fun e w' => e = .returned (.bool (decide (1 ≤ g ∧ g ≤ 1000))) ∧ w' = w) := ⟨within_ok g 1000⟩
  have C3 : Hd (∀ w, Calls Try.prog 22 #[.int .i64 n, .int .i64 64] w fun e w' => e = .returned (.bool (decide (1 ≤ n ∧ n ≤ 64))) ∧ w' = w) := ⟨within_ok n 64⟩
  obtain ⟨h1, h2, h3⟩ := h
  rw [decide_eq_true h1] at C1
  rw [decide_eq_true h2] at C2
  rw [decide_eq_true h3] at C3
  rw [HO.out] at C1 h1
  have hm : m ≤ 64 := by omega
  have HN : Hd (Blk w1 w.heap.size 25 (faA 0 0 0 0 (.slice none 0 0)) ∧ Below w.heap.size w w1) := ⟨N1, B1⟩
  have hs1 := B1.size
  clear ho HO N1 B1 h1 h2 h3
  go_enter Try.func12, Try.ntmps12
  go_upto_region 1 with fail
  rw [← hw1]
  clear hw1
  go_wp2_with fail
  go_at_call 22
  refine (C1.out _).mono ?_
  rintro e w4 ⟨rfl, rfl⟩
  go_wp2_with fail
  go_at_call 22
  refine (C2.out _).mono ?_
  rintro e w5 ⟨rfl, rfl⟩
  go_wp2_with fail
  go_at_call 22
  refine (C3.out _).mono ?_
  rintro e w6 ⟨rfl, rfl⟩
  go_wp2_with (at_make; refine wpList_make_full _ rfl (.tmp 25) (.tmp 25) 23 rfl w.heap.size 38 i0 (.agg #[.int .u64 0, .slice none 0 0]) 2 Try.underlying23 hi hz0 hz1 _ _ _ _ m rfl rfl rfl rfl (by rw [hz2]; omega) (by unfold maxLen; omega) hs1 ?_; intro w3 hown3 hgrow3; have OM := OwL.made hown3; have b3 := HN.out.2.grown hgrow3 hs1 (by simp); have NR := HN.out.1.kept (Kept.of_grown (S := fun _ => False) hgrow3 (fun k e => by cases e)) id; obtain ⟨⟨y0, y1, y2, y3, y4⟩, yf0, yf1, yf2, yf3, yf4⟩ := NR.fair; obtain ⟨q1, k1⟩ := fair_set NR 0 g n m (.slice (some ⟨w6.heap.size, 0, none⟩) m m); have HE : Hd (_ ∧ _ ∧ _) := ⟨q1, OM.other NR k1, b3.trans (k1.below b3.size (fun j e => by omega))⟩; clear OM b3 NR q1 k1 hown3 hgrow3)
  refine bodyPost_ret (resFn12 _ _ _ (.int .i64 0) rfl rfl HE.out.1) rfl ?_
  exact ⟨⟨_, rfl, _, rfl, HE.out.2.1⟩, HE.out.2.2⟩

end Go.Proofs.Ytemmkkcfjhmomab
