/-
  What 'Split' of the reference answers: for every total and all shares what the program answers. Conditions: the shares lie in memory.
-/
import Derived.Test.YtkohofiobpniiaaWalkC
import Derived.Deep.AppendLies
namespace Go.Proofs.Ytkohofiobpniiaa
open Go.RowKit

/-- The first n of f, as cells. -/
def cellsOf (f : Nat → Int) (n : Nat) : List Value := (List.range n).map fun j => .int .i64 (f j)
theorem cellsOf_succ (f : Nat → Int) (n : Nat) : cellsOf f n ++ [.int .i64 (f n)] = cellsOf f (n + 1) := by simp [cellsOf, List.range_succ]
theorem cellsOf_get (f : Nat → Int) (n j : Nat) (h : j < n) : (cellsOf f n)[j]? = some (.int .i64 (f j)) := by simp [cellsOf, h]

/-- A slice that was appended to: what it reads. -/
theorem row_owned {w : World} {base : Nat} {v : Value} {n : Nat} {f : Nat → Int} (h : w.ownsRow base 3 1 v n (cellsOf f n)) : ∃ a cap, v = .slice a n cap ∧ Row w a n f := by
  rcases id h.2 with ⟨rfl, rfl⟩ | ⟨g, cap, cur, rfl, hb, hg, r⟩
  · exact ⟨none, 0, rfl, fun h => by omega⟩
  · refine ⟨some ⟨g, 0, none⟩, cap, rfl, fun hn => ⟨g, 0, rfl, (h.lt g rfl).2, fun k hk => ?_⟩⟩
    rw [Nat.zero_add, h.cellAt k (by omega), cellsOf_get f n k hk]

theorem one_new (w : World) (x : Int) : ∀ j u, ([.int .i64 x] : List Value)[j]? = some u → (w.alloc (.cells #[.int .i64 x] 3)).cell? ((⟨w.heap.size, 0, none⟩ : Addr).add j) = some u := by
  intro j u hj
  match j, hj with
  | 0, hj => simp at hj; subst hj; simp [Addr.add]
theorem one_cell (x : Int) : ∀ u ∈ ([.int .i64 x] : List Value), u.oneCell' = true := by
  intro u hu; simp at hu; subst hu; rfl


set_option maxRecDepth 20000 in
set_option maxHeartbeats 1000000 in
theorem ref_no (total : Int) (a : Option Addr) (n cap : Nat) (f : Nat → Int) (w : World) (hr : Row w a n f) (h : (refI total n f == 0) = false) :
    Calls Try.prog 15 #[.int .i64 total, .slice a n cap] w fun e w' => e = .returned (.tuple #[.slice none 0 0, .int .i64 (refI total n f)]) ∧ w' = w := by
  have h0 : refI total n f ≠ 0 := by simpa using h
  clear h
  by_cases t1 : total < 0
  · have e : refI total n f = 1 := by simp [refI, t1]
    rw [e]; clear e h0
    go_enter Try.func15, Try.ntmps15
    go_wp2
    go_ret2; exact ⟨rfl, rfl⟩
  by_cases t2 : 4096 < total
  · have e : refI total n f = 1 := by simp [refI, t2]
    rw [e]; clear e h0
    go_enter Try.func15, Try.ntmps15
    go_wp2
    go_ret2; exact ⟨rfl, rfl⟩
  have e1 : refI total n f = if 16 < n then 3 else if ∃ k, k < n ∧ (f k < 0 ∨ 10000 < f k) then 8 else if sumTo f n = 0 then 6 else 0 := by simp [refI, t1, t2]
  by_cases t3 : 16 < n
  · have e : refI total n f = 3 := by rw [e1, if_pos t3]
    rw [e]; clear e e1 h0
    have t3' : (16 : Int) < (n : Int) := by omega
    go_enter Try.func15, Try.ntmps15
    go_wp2
    go_ret2; exact ⟨rfl, rfl⟩
  rw [if_neg t3] at e1
  have E1 : Hid (refI total n f = if ∃ k, k < n ∧ (f k < 0 ∨ 10000 < f k) then 8 else if sumTo f n = 0 then 6 else 0) := e1
  have H0 : Hid (refI total n f ≠ 0) := h0
  clear e1 h0
  have t3' : ¬ (16 : Int) < (n : Int) := by omega
  go_enter Try.func15, Try.ntmps15
  go_wp2
  go_loop [6, 7] (fun s i => ∃ k : Nat, k ≤ n ∧ i = .int .i64 k ∧ s = .int .i64 (sumTo f k) ∧ Hid (∀ j, j < k → 0 ≤ f j ∧ f j ≤ 10000)) (fun _ i => n - (intOf i).toNat)
  case atStart => exact ⟨0, Nat.zero_le _, rfl, rfl, fun j hj => absurd hj (Nat.not_lt_zero _)⟩
  case round =>
    obtain ⟨k, hk, rfl, rfl, hall⟩ := hrel
    have hs := sumTo_le hall.out k (Nat.le_refl _)
    obtain ⟨hs1, hs2⟩ := hs
    by_cases hlt : k < n
    · obtain ⟨b, off, rfl, hb, hc⟩ := hr (by omega)
      have hcell := hc k hlt
      clear hc hr
      by_cases c1 : f k < 0
      · have e : refI total n f = 8 := by rw [E1.out, if_pos ⟨k, hlt, .inl c1⟩]
        have E : Hid (refI total n f = 8) := e
        clear e
        go_wp2
        go_ret2; exact ⟨congrArg (fun x => Ending.returned (Value.tuple #[.slice none 0 0, .int .i64 x])) E.out.symm, rfl⟩
      by_cases c2 : 10000 < f k
      · have e : refI total n f = 8 := by rw [E1.out, if_pos ⟨k, hlt, .inr c2⟩]
        have E : Hid (refI total n f = 8) := e
        clear e
        go_wp2
        go_ret2; exact ⟨congrArg (fun x => Ending.returned (Value.tuple #[.slice none 0 0, .int .i64 x])) E.out.symm, rfl⟩
      go_wp2
      go_round
      case rel =>
        refine ⟨k + 1, by omega, by go_num, by simp [sumTo], fun j hj => ?_⟩
        rcases Nat.lt_or_eq_of_le (Nat.le_of_lt_succ hj) with h | rfl
        · exact hall.out j h
        · exact ⟨by omega, by omega⟩
      case measure => simp [intOf]; omega
    · obtain rfl : k = n := by omega
      have e2 : refI total k f = if sumTo f k = 0 then 6 else 0 := by
        rw [E1.out, if_neg]
        rintro ⟨j, hj, h⟩
        have := hall.out j hj
        omega
      by_cases c3 : sumTo f k = 0
      · rw [if_pos c3] at e2
        have E : Hid (refI total k f = 6) := e2
        clear e2 E1 hr hall
        go_wp2
        go_ret2; exact ⟨congrArg (fun x => Ending.returned (Value.tuple #[.slice none 0 0, .int .i64 x])) E.out.symm, rfl⟩
      · rw [if_neg c3] at e2
        exact absurd e2 H0.out

/-- Two rows of the call's own that share no block. -/
def Apart (v u : Value) : Prop := v.ownBlock = none ∨ v.ownBlock ≠ u.ownBlock

/-- What the reference has gathered behind k shares. -/
def Both (w : World) (B k : Nat) (v u : Value) (p r : Nat → Int) : Prop :=
  w.ownsRow B 3 1 v k (cellsOf p k) ∧ w.ownsRow B 3 1 u k (cellsOf r k) ∧ Apart v u

theorem Own.owned {w : World} {base g n cap : Nat} {f : Nat → Int} (h : w.ownsRow base 3 1 (.slice (some ⟨g, 0, none⟩) n cap) n (cellsOf f n)) : Own w g n f :=
  ⟨(h.lt g rfl).2, fun k hk => ⟨by rw [h.cellAt k (by omega), cellsOf_get f n k hk], h.frozenAt k⟩⟩

theorem Apart.symm {v u : Value} (h : Apart v u) : Apart u v := by
  unfold Apart at *
  rcases h with h | h
  · by_cases c : u.ownBlock = none
    · exact .inl c
    · exact .inr (by rw [h]; exact c)
  · exact .inr (Ne.symm h)

theorem Both.step {wr w1 w2 : World} {B k g1 c1 g2 c2 : Nat} {v u : Value} {p r : Nat → Int} {o1 o2 : Obj} (h : Both wr B k v u p r)
    (hown1 : w1.ownsRow B 3 1 (.slice (some ⟨g1, 0, none⟩) (k + 1) c1) (k + 1) (cellsOf p (k + 1))) (hat1 : v.ownBlock = some g1 ∨ g1 = (wr.alloc o1).heap.size) (hlt1 : g1 < w1.heap.size)
    (hown2 : w2.ownsRow B 3 1 (.slice (some ⟨g2, 0, none⟩) (k + 1) c2) (k + 1) (cellsOf r (k + 1))) (hgrow2 : (w1.alloc o2).grownBy w2 u.ownBlock) (hat2 : u.ownBlock = some g2 ∨ g2 = (w1.alloc o2).heap.size) :
    Both w2 B (k + 1) (.slice (some ⟨g1, 0, none⟩) (k + 1) c1) (.slice (some ⟨g2, 0, none⟩) (k + 1) c2) p r := by
  obtain ⟨hv, hu, ha⟩ := h
  have hne : some g1 ≠ u.ownBlock := by
    rcases hat1 with e | e
    · rcases ha with c | c
      · rw [c] at e; cases e
      · rw [← e]; exact c
    · intro c
      have := (hu.lt g1 c.symm).2
      simp at e; omega
  refine ⟨(hown1.alloc _).kept hgrow2 (.inr hne), hown2, .inr ?_⟩
  show some g1 ≠ some g2
  rcases hat2 with e | e
  · rw [← e]; exact hne
  · intro c
    simp at c e; omega

end Go.Proofs.Ytkohofiobpniiaa
