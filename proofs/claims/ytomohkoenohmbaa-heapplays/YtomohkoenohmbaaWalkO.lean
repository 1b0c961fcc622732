/-
  What 'First' and 'Find' of the reference answer; lists in order, into which one is put, and of which one is taken. Conditions: as each theorem says them.
-/
import Derived.Test.YtomohkoenohmbaaWalkN
namespace Go.Proofs.Ytomohkoenohmbaa
open Go.RowKit Go.Lib Go.Sort Go.Maps

/-! ### lists in order -/
theorem ListOf.ids {L : List (Int × Int)} {M : Int × Int → Prop} (h : ListOf L M) : L.Pairwise lt := h.1

theorem getD_mem {L : List (Int × Int)} {i : Nat} (h : i < L.length) : L.getD i (0, 0) ∈ L := by
  rw [List.getD_eq_getElem?_getD, List.getElem?_eq_getElem h]
  exact List.getElem_mem h
theorem mem_getD {L : List (Int × Int)} {y : Int × Int} (h : y ∈ L) : ∃ i, i < L.length ∧ L.getD i (0, 0) = y := by
  obtain ⟨i, hi, e⟩ := List.getElem_of_mem h
  exact ⟨i, hi, by rw [List.getD_eq_getElem?_getD, List.getElem?_eq_getElem hi]; exact e⟩

/-- One is put into a list in order. -/
theorem ListOf.put {L : List (Int × Int)} {M : Int × Int → Prop} (h : ListOf L M) {k : Nat} {x : Int × Int} (hk : k ≤ L.length) (h1 : ∀ j, j < k → lt (L.getD j (0, 0)) x) (h2 : k < L.length → ¬ lt (L.getD k (0, 0)) x) (hx : ∀ y, M y → y.2 ≠ x.2) :
    ListOf (L.take k ++ x :: L.drop k) (fun y => y = x ∨ M y) := by
  have hs := h.1
  rw [← List.take_append_drop k L] at hs
  obtain ⟨s1, s2, s3⟩ := List.pairwise_append.1 hs
  have ht : ∀ y ∈ L.take k, lt y x := by
    intro y hy
    obtain ⟨i, hi, e⟩ := List.getElem_of_mem hy
    have hi' : i < k := by simp at hi; omega
    have := h1 i hi'
    rw [List.getD_eq_getElem?_getD, List.getElem?_eq_getElem (by simp at hi; omega)] at this
    rw [← e]
    simpa using this
  have hd : ∀ y ∈ L.drop k, lt x y := by
    intro y hy
    by_cases c : k < L.length
    · have e0 : L.drop k = L[k] :: L.drop (k + 1) := List.drop_eq_getElem_cons c
      have hk0 := h2 c
      rw [List.getD_eq_getElem?_getD, List.getElem?_eq_getElem c] at hk0
      simp at hk0
      have hne := hx _ ((h.2 _).1 (List.getElem_mem c))
      have hxk : lt x L[k] := lt_of_ne hk0 (fun e => hne e.symm)
      rw [e0] at hy s2
      rcases List.mem_cons.1 hy with rfl | hy
      · exact hxk
      · exact lt_trans hxk ((List.pairwise_cons.1 s2).1 y hy)
    · rw [List.drop_eq_nil_of_le (by omega)] at hy
      cases hy
  constructor
  · rw [List.pairwise_append]
    refine ⟨s1, List.pairwise_cons.2 ⟨hd, s2⟩, fun a ha b hb => ?_⟩
    rcases List.mem_cons.1 hb with rfl | hb
    · exact ht a ha
    · exact s3 a ha b hb
  · intro y
    have e : y ∈ L ↔ y ∈ L.take k ∨ y ∈ L.drop k := by
      rw [← List.mem_append, List.take_append_drop]
    show _ ↔ (y = x ∨ M y)
    rw [← h.2 y, e, List.mem_append, List.mem_cons]
    constructor
    · rintro (a | a | a)
      · exact .inr (.inl a)
      · exact .inl a
      · exact .inr (.inr a)
    · rintro (a | a | a)
      · exact .inr (.inl a)
      · exact .inl a
      · exact .inr (.inr a)

/-- One is taken out of a list in order. -/
theorem ListOf.out {L : List (Int × Int)} {M : Int × Int → Prop} (h : ListOf L M) (hid : ∀ y z, M y → M z → y.2 = z.2 → y = z) {k : Nat} (hk : k < L.length) :
    ListOf (L.take k ++ L.drop (k + 1)) (fun y => M y ∧ y.2 ≠ (L.getD k (0, 0)).2) := by
  have e0 : L = L.take k ++ L[k] :: L.drop (k + 1) := by rw [← List.drop_eq_getElem_cons hk, List.take_append_drop]
  have eg : L.getD k (0, 0) = L[k] := by rw [List.getD_eq_getElem?_getD, List.getElem?_eq_getElem hk]; rfl
  have hs := h.1
  rw [e0] at hs
  obtain ⟨s1, s2, s3⟩ := List.pairwise_append.1 hs
  obtain ⟨s4, s5⟩ := List.pairwise_cons.1 s2
  rw [eg]
  constructor
  · rw [List.pairwise_append]
    exact ⟨s1, s5, fun a ha b hb => s3 a ha b (List.mem_cons_of_mem _ hb)⟩
  · intro y
    have e : y ∈ L ↔ y ∈ L.take k ∨ y = L[k] ∨ y ∈ L.drop (k + 1) := by
      have : y ∈ L ↔ y ∈ L.take k ++ L[k] :: L.drop (k + 1) := by rw [← e0]
      rw [this, List.mem_append, List.mem_cons]
    have hMk := (h.2 _).1 (List.getElem_mem hk)
    rw [List.mem_append]
    constructor
    · intro hy
      have hyL : y ∈ L := e.2 (by rcases hy with a | a; exact .inl a; exact .inr (.inr a))
      refine ⟨(h.2 y).1 hyL, fun ee => ?_⟩
      have := hid _ _ ((h.2 y).1 hyL) hMk ee
      subst this
      rcases hy with a | a
      · exact lt_irrefl _ (s3 _ a _ (List.mem_cons_self))
      · exact lt_irrefl _ (s4 _ a)
    · rintro ⟨hy, hne⟩
      rcases e.1 ((h.2 y).2 hy) with a | a | a
      · exact .inl a
      · exact absurd (by rw [a]) hne
      · exact .inr a

/-! ### First, Find -/
theorem first_any (x y : Int × Int) (w : World) : Calls Try.prog 23 #[vI x, vI y] w fun e w' => e = .returned (.bool (@decide (lt x y) (ltDec x y))) ∧ Below w.heap.size w w' := by
  have bw : Below w.heap.size w ((w.alloc (.cells #[.int .u64 x.1, .int .i64 x.2] 29)).alloc (.cells #[.int .u64 y.1, .int .i64 y.2] 29)) := ((Below.refl _ _).alloc (Nat.le_refl _) _).alloc (by simp) _
  unfold vI
  by_cases c1 : x.1 < y.1
  · have e : @decide (lt x y) (ltDec x y) = true := ltYes (.inl c1)
    rw [e]; clear e
    go_enter Try.func23, Try.ntmps23
    go_wp2
    go_ret; exact ⟨rfl, bw⟩
  by_cases c2 : (x.1 == y.1) = true
  · by_cases c3 : x.2 < y.2
    · have e : @decide (lt x y) (ltDec x y) = true := ltYes (.inr ⟨by simpa using c2, c3⟩)
      rw [e]; clear e
      go_enter Try.func23, Try.ntmps23
      go_wp2
      go_ret; exact ⟨rfl, bw⟩
    · have e : @decide (lt x y) (ltDec x y) = false := ltNo (by unfold lt; simp at c2; omega)
      rw [e]; clear e
      go_enter Try.func23, Try.ntmps23
      go_wp2
      go_ret; exact ⟨rfl, bw⟩
  · have c2' : (x.1 == y.1) = false := by simpa using c2
    have e : @decide (lt x y) (ltDec x y) = false := ltNo (by unfold lt; simp at c2; omega)
    rw [e]; clear e c2
    go_enter Try.func23, Try.ntmps23
    go_wp2
    go_ret; exact ⟨rfl, bw⟩

theorem rfind_miss (a : Option Addr) (n cap : Nat) (f : Nat → Int × Int) (id : Int) (w : World) (hr : Row w a n f) (hn : n ≤ 9223372036854775806) (h : ∀ k, k < n → (f k).2 ≠ id) :
    Calls Try.prog 18 #[.slice a n cap, .int .i64 id] w fun e w' => e = .returned (.int .i64 (-1)) ∧ w' = w := by
  have Hh : Hid (∀ k, k < n → (f k).2 ≠ id) := h
  clear h
  go_enter Try.func18, Try.ntmps18
  go_wp2
  go_loop [5] (fun i => ∃ k : Nat, k ≤ n ∧ i = .int .i64 k) (fun i => n - (intOf i).toNat)
  case atStart => exact ⟨0, Nat.zero_le _, rfl⟩
  case round =>
    obtain ⟨k, hk, rfl⟩ := hrel
    by_cases hlt : k < n
    · obtain ⟨b, off, rfl, hb, hc⟩ := hr (by omega)
      have c1 := (hc k hlt).2
      have e' : ((f k).2 == id) = false := by simpa using Hh.out k hlt
      have i1 : (k : Int) < (n : Int) := by omega
      clear hc hr
      go_wp2
      go_round
      case rel => exact ⟨k + 1, by omega, by go_num⟩
      case measure => simp [intOf]; omega
    · obtain rfl : k = n := by omega
      clear hr
      go_wp2
      go_ret; exact ⟨rfl, rfl⟩

theorem rfind_hit (a : Option Addr) (n cap : Nat) (f : Nat → Int × Int) (id : Int) (w : World) (hr : Row w a n f) (hn : n ≤ 9223372036854775806) (p : Nat) (hp : p < n) (he : (f p).2 = id) (h : ∀ k, k < p → (f k).2 ≠ id) :
    Calls Try.prog 18 #[.slice a n cap, .int .i64 id] w fun e w' => e = .returned (.int .i64 p) ∧ w' = w := by
  have Hh : Hid (∀ k, k < p → (f k).2 ≠ id) := h
  have He : Hid ((f p).2 = id) := he
  clear h he
  go_enter Try.func18, Try.ntmps18
  go_wp2
  go_loop [5] (fun i => ∃ k : Nat, k ≤ p ∧ i = .int .i64 k) (fun i => n - (intOf i).toNat)
  case atStart => exact ⟨0, Nat.zero_le _, rfl⟩
  case round =>
    obtain ⟨k, hk, rfl⟩ := hrel
    obtain ⟨b, off, rfl, hb, hc⟩ := hr (by omega)
    have c1 := (hc k (by omega)).2
    have i1 : (k : Int) < (n : Int) := by omega
    by_cases hlt : k < p
    · have e' : ((f k).2 == id) = false := by simpa using Hh.out k hlt
      clear hc hr
      go_wp2
      go_round
      case rel => exact ⟨k + 1, by omega, by go_num⟩
      case measure => simp [intOf]; omega
    · obtain rfl : k = p := by omega
      have e' : ((f k).2 == id) = true := by simpa using He.out
      clear hc hr
      go_wp2
      go_ret; exact ⟨rfl, rfl⟩
end Go.Proofs.Ytomohkoenohmbaa
