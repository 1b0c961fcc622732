/-
  A configuration is read as it was printed: the mathematics.
-/
import Derived.Test.YtijjpblmnlednaaGreatDoorE6
namespace Go.Proofs.YtijjpblmnlednaaGreatDoor
open Go.Lib
theorem numD {n : Int} (h0 : 0 ≤ n) (h9 : n ≤ 999999999) {lo hi : Int} (h1 : lo ≤ n) (h2 : n ≤ hi) : numIn (digB n) lo hi = true ∧ numOf (digB n) lo hi = n := by
  obtain ⟨k, rfl⟩ : ∃ k : Nat, n = (k : Int) := ⟨n.toNat, by omega⟩
  obtain ⟨a, b⟩ := num_digits k (by omega) lo hi
  have c : (decide (lo ≤ (k : Int)) && decide ((k : Int) ≤ hi)) = true := by simp [h1, h2]
  rw [a, b, c]
  exact ⟨rfl, rfl⟩

/-! ### words that may stand in a line -/
theorem clean_name {x : ByteArray} (h : isName x = true) : Clean x := by
  unfold isName at h
  simp only [Bool.and_eq_true] at h
  have hall : ∀ b ∈ x.data.toList, isNameB (b.toNat : Int) = true := by
    have := h.2.1
    unfold allB at this
    exact fun b hb => List.all_eq_true.1 this b hb
  refine ⟨fun e => ?_, fun hm => ?_, fun hm => ?_⟩
  · have h3 := h.2.2
    have z : x.size = 0 := by rw [← size_list, e]; rfl
    rw [dif_neg (by omega)] at h3
    cases h3
  · have := hall 32 hm; revert this; decide
  · have := hall 10 hm; revert this; decide
theorem clean_dig (n : Int) : Clean (digB n) := by
  have hd := dec_digits (max n 0).toNat
  have hp := dec_pos (max n 0).toNat
  unfold digB
  refine ⟨?_, ?_, ?_⟩
  · rw [mk_list]; intro e; rw [e] at hp; simp at hp
  · rw [mk_list]; intro hm; have := (hd 32 hm).1; revert this; decide
  · rw [mk_list]; intro hm; have := (hd 10 hm).1; revert this; decide
theorem tail_noD {c d : UInt8} : ∀ {r : List (List UInt8)}, c ≠ d → (∀ y ∈ r, c ∉ y) → c ∉ joinTail [d] r
  | [], _, _ => by simp [joinTail]
  | y :: r, hc, h => by
    rw [tail_cons]
    intro hm
    rcases List.mem_cons.1 hm with e | hm
    · exact hc e
    · rcases List.mem_append.1 hm with hm | hm
      · exact h y (List.mem_cons_self ..) hm
      · exact tail_noD hc (fun z hz => h z (List.mem_cons_of_mem _ hz)) hm
theorem join_noD {c d : UInt8} {r : List (List UInt8)} (hc : c ≠ d) (h : ∀ y ∈ r, c ∉ y) : c ∉ join r [d] := by
  cases r with
  | nil => simp [join]
  | cons x r =>
    rw [join_cons]
    intro hm
    rcases List.mem_append.1 hm with hm | hm
    · exact h x (List.mem_cons_self ..) hm
    · exact tail_noD hc (fun z hz => h z (List.mem_cons_of_mem _ hz)) hm
theorem word_no {s : ByteArray} (h : isWord s = true) : (32 : UInt8) ∉ s.data.toList ∧ (10 : UInt8) ∉ s.data.toList := by
  rw [isWord_eq] at h
  simp only [Bool.and_eq_true, decide_eq_true_eq, Bool.not_eq_true', decide_eq_false_iff_not] at h
  obtain ⟨h1, h2, h3, h4⟩ := h
  have hall : ∀ b ∈ s.data.toList, isWordB (b.toNat : Int) = true := by
    unfold allB at h2
    exact fun b hb => List.all_eq_true.1 h2 b hb
  refine ⟨fun hm => ?_, fun hm => ?_⟩
  · have := hall 32 hm; revert this; decide
  · have := hall 10 hm; revert this; decide
theorem clean_join {L : List ByteArray} (h : joinB L ≠ mk []) : Clean (joinB L) := by
  unfold joinB at h ⊢
  by_cases h0 : L = []
  · rw [if_pos h0]; exact ⟨by decide, by decide, by decide⟩
  rw [if_neg h0] at h ⊢
  by_cases h1 : L = [mk [42]]
  · rw [if_pos h1]; exact ⟨by decide, by decide, by decide⟩
  rw [if_neg h1] at h ⊢
  cases hg : good L with
  | false => rw [hg] at h; exact absurd rfl h
  | true =>
    rw [hg] at h
    rw [if_pos rfl] at h ⊢
    have hw := good_words (good_iff.1 hg)
    refine ⟨fun e => h (by rw [mk_list] at e; rw [e]), ?_, ?_⟩
    · rw [mk_list]
      exact join_noD (by decide) (fun y hy => by obtain ⟨z, hz, rfl⟩ := List.mem_map.1 hy; exact (word_no (hw z hz)).1)
    · rw [mk_list]
      exact join_noD (by decide) (fun y hy => by obtain ⟨z, hz, rfl⟩ := List.mem_map.1 hy; exact (word_no (hw z hz)).2)
theorem clean_t : Clean tTotal ∧ Clean tPeriod ∧ Clean tSeats ∧ Clean tLevel ∧ Clean tSchema ∧ Clean tRule ∧ Clean tExempt ∧ Clean tReject ∧ Clean tQueue ∧ Clean tAll ∧ Clean tNone ∧ Clean tUser ∧ Clean tSpace := by
  refine ⟨?_, ?_, ?_, ?_, ?_, ?_, ?_, ?_, ?_, ?_, ?_, ?_, ?_⟩ <;> exact ⟨by decide, by decide, by decide⟩
theorem clean_bor (n : Int) : Clean (borW n) := by
  unfold borW
  split
  · exact clean_t.2.2.2.2.2.2.2.2.2.1
  · exact clean_dig n

/-! ### what may be printed -/
theorem lvOk_iff {l : Lv} : lvOk l = true ↔ isName l.name = true ∧ ((l.kind = 1 ∧ noShares l = true ∧ noLanes l = true) ∨ (l.kind = 2 ∧ sharesOk l = true ∧ noLanes l = true) ∨ (l.kind = 3 ∧ sharesOk l = true ∧ lanesOk l = true)) := by
  unfold lvOk
  rw [Bool.and_eq_true]
  refine and_congr Iff.rfl ?_
  by_cases h1 : l.kind = 1
  · rw [if_pos h1, Bool.and_eq_true, h1]
    simp
  rw [if_neg h1]
  by_cases h2 : l.kind = 2
  · rw [if_pos h2, Bool.and_eq_true, h2]
    simp
  rw [if_neg h2]
  by_cases h3 : l.kind = 3
  · rw [if_pos h3, Bool.and_eq_true, h3]
    simp
  rw [if_neg h3]
  simp [h1, h2, h3]
theorem noShares_iff {l : Lv} : noShares l = true ↔ l.shares = 0 ∧ l.lend = 0 ∧ l.borrow = 0 := by unfold noShares; simp
theorem noLanes_iff {l : Lv} : noLanes l = true ↔ l.queues = 0 ∧ l.hand = 0 ∧ l.length = 0 ∧ l.wait = 0 ∧ l.guess = 0 := by unfold noLanes; simp
theorem sharesOk_iff {l : Lv} : sharesOk l = true ↔ (0 ≤ l.shares ∧ l.shares ≤ 10000) ∧ (0 ≤ l.lend ∧ l.lend ≤ 100) ∧ (l.borrow = -1 ∨ (0 ≤ l.borrow ∧ l.borrow ≤ 1000)) := by
  unfold sharesOk; simp [inI_iff]
theorem lanesOk_iff {l : Lv} : lanesOk l = true ↔ (1 ≤ l.queues ∧ l.queues ≤ 64) ∧ (1 ≤ l.hand ∧ l.hand ≤ 8) ∧ (1 ≤ l.length ∧ l.length ≤ 64) ∧ (1 ≤ l.wait ∧ l.wait ≤ 1000) ∧ (1 ≤ l.guess ∧ l.guess ≤ 1000) := by
  unfold lanesOk; simp [inI_iff]
theorem byIs_iff {n : Int} : byIs n = true ↔ n = 0 ∨ n = 1 ∨ n = 2 := by unfold byIs; simp
theorem scOk_iff {s : Sc} : scOk s = true ↔ isName s.name = true ∧ isName s.level = true ∧ (1 ≤ s.rank ∧ s.rank ≤ 10000) ∧ (s.way = 0 ∨ s.way = 1 ∨ s.way = 2) ∧ s.rules.length ≤ 8 ∧ ∀ r ∈ s.rules, rlOk r = true := by
  unfold scOk rlsOk
  simp [inI_iff, byIs_iff]
theorem seatsOk_iff {p m : Int} : seatsOk p m = true ↔ (p = 0 ∧ m = 0) ∨ ((1 ≤ p ∧ p ≤ 1048576) ∧ (1 ≤ m ∧ m ≤ 16)) := by
  unfold seatsOk; simp [inI_iff]
structure Formed (C : Cf) : Prop where
  t : 0 ≤ C.total ∧ C.total ≤ 4096
  p : 0 ≤ C.period ∧ C.period ≤ 1000
  s : (C.perSeat = 0 ∧ C.most = 0) ∨ ((1 ≤ C.perSeat ∧ C.perSeat ≤ 1048576) ∧ (1 ≤ C.most ∧ C.most ≤ 16))
  nl : C.levels.length ≤ 16
  lv : ∀ l ∈ C.levels, lvOk l = true
  pl : C.levels.Pairwise fun a b => a.name ≠ b.name
  ns : C.schemas.length ≤ 32
  sc : ∀ s ∈ C.schemas, scOk s = true
  ps : C.schemas.Pairwise fun a b => a.name ≠ b.name
theorem formed_iff {C : Cf} : formed C = true ↔ Formed C := by
  unfold formed levelsOk schemasOk
  simp only [Bool.and_eq_true, inI_iff, seatsOk_iff, decide_eq_true_eq, List.all_eq_true]
  constructor
  · rintro ⟨a, b, c, ⟨d, e, f⟩, g, h, i⟩; exact ⟨a, b, c, d, e, f, g, h, i⟩
  · rintro ⟨a, b, c, d, e, f, g, h, i⟩; exact ⟨a, b, c, ⟨d, e, f⟩, g, h, i⟩

theorem clean_lv {l : Lv} (h : lvOk l = true) : ∀ x ∈ lvWs l, Clean x := by
  obtain ⟨hn, hk⟩ := lvOk_iff.1 h
  obtain ⟨c1, c2, c3, c4, c5, c6, c7, c8, c9, c10, c11, c12, c13⟩ := clean_t
  have cn := clean_name hn
  unfold lvWs
  rcases hk with ⟨k, _⟩ | ⟨k, _⟩ | ⟨k, _⟩
  · rw [if_pos k]
    intro x hx
    simp only [List.mem_cons, List.not_mem_nil, or_false] at hx
    rcases hx with rfl | rfl | rfl <;> assumption
  · rw [if_neg (by omega), if_pos k]
    intro x hx
    simp only [List.mem_cons, List.not_mem_nil, or_false] at hx
    rcases hx with rfl | rfl | rfl | rfl | rfl | rfl <;> first | assumption | exact clean_dig _ | exact clean_bor _
  · rw [if_neg (by omega), if_neg (by omega), if_pos k]
    intro x hx
    simp only [List.mem_cons, List.not_mem_nil, or_false] at hx
    rcases hx with rfl | rfl | rfl | rfl | rfl | rfl | rfl | rfl | rfl | rfl | rfl <;> first | assumption | exact clean_dig _ | exact clean_bor _
theorem clean_by {n : Int} (h : n = 0 ∨ n = 1 ∨ n = 2) : Clean (byW n) := by
  obtain ⟨c1, c2, c3, c4, c5, c6, c7, c8, c9, c10, c11, c12, c13⟩ := clean_t
  rcases h with rfl | rfl | rfl
  · exact c11
  · exact c12
  · exact c13
theorem clean_rl {r : Rl} (h : rlOk r = true) : ∀ x ∈ rlWs r, Clean x := by
  obtain ⟨h1, h2, h3, h4, h5⟩ := rlOk_iff.1 h
  intro x hx
  simp only [rlWs, rlJ, List.mem_cons, List.not_mem_nil, or_false] at hx
  rcases hx with rfl | rfl | rfl | rfl | rfl | rfl
  · exact clean_t.2.2.2.2.2.1
  · exact clean_join h1
  · exact clean_join h2
  · exact clean_join h3
  · exact clean_join h4
  · exact clean_join h5
theorem clean_sc {s : Sc} (h : scOk s = true) : ∀ ws ∈ scLs s, ∀ x ∈ ws, Clean x := by
  obtain ⟨h1, h2, h3, h4, h5, h6⟩ := scOk_iff.1 h
  intro ws hw x hx
  rcases List.mem_cons.1 hw with rfl | hw
  · simp only [scWs, List.mem_cons, List.not_mem_nil, or_false] at hx
    rcases hx with rfl | rfl | rfl | rfl | rfl
    · exact clean_t.2.2.2.2.1
    · exact clean_name h1
    · exact clean_name h2
    · exact clean_dig _
    · exact clean_by h4
  · obtain ⟨r, hr, rfl⟩ := List.mem_map.1 hw
    exact clean_rl (h6 r hr) x hx
theorem clean_cf {C : Cf} (h : Formed C) : ∀ ws ∈ cfWs C, ∀ x ∈ ws, Clean x := by
  obtain ⟨c1, c2, c3, c4, c5, c6, c7, c8, c9, c10, c11, c12, c13⟩ := clean_t
  intro ws hw x hx
  unfold cfWs numWs at hw
  rcases List.mem_append.1 hw with hw | hw
  · rcases List.mem_append.1 hw with hw | hw
    · split at hw
      · cases hw
      · obtain rfl := List.mem_singleton.1 hw
        simp only [List.mem_cons, List.not_mem_nil, or_false] at hx
        rcases hx with rfl | rfl
        · assumption
        · exact clean_dig _
    · rcases List.mem_append.1 hw with hw | hw
      · split at hw
        · cases hw
        · obtain rfl := List.mem_singleton.1 hw
          simp only [List.mem_cons, List.not_mem_nil, or_false] at hx
          rcases hx with rfl | rfl
          · assumption
          · exact clean_dig _
      · split at hw
        · cases hw
        · obtain rfl := List.mem_singleton.1 hw
          simp only [List.mem_cons, List.not_mem_nil, or_false] at hx
          rcases hx with rfl | rfl | rfl
          · assumption
          · exact clean_dig _
          · exact clean_dig _
  · rcases List.mem_append.1 hw with hw | hw
    · obtain ⟨l, hl, rfl⟩ := List.mem_map.1 hw
      exact clean_lv (h.lv l hl) x hx
    · obtain ⟨s, hs, hw⟩ := List.mem_flatMap.1 hw
      exact clean_sc (h.sc s hs) ws hw x hx

/-! ### line by line -/
theorem t_ne : tPeriod ≠ tTotal ∧ tSeats ≠ tTotal ∧ tSeats ≠ tPeriod ∧ tLevel ≠ tTotal ∧ tLevel ≠ tPeriod ∧ tLevel ≠ tSeats ∧ tSchema ≠ tTotal ∧ tSchema ≠ tPeriod ∧ tSchema ≠ tSeats ∧ tSchema ≠ tLevel ∧ tRule ≠ tTotal ∧ tRule ≠ tPeriod ∧ tRule ≠ tSeats ∧ tRule ≠ tLevel ∧ tRule ≠ tSchema := by decide
theorem loud {s : ByteArray} {r : List ByteArray} {C : Cf} (h : (s.data.toList.head? == some 35) = false) : lineE C (s :: r) = tellE C s r ∧ lineC C (s :: r) = tellC C s r := by
  have e : silent (s :: r) = false := h
  unfold lineE lineC
  rw [e]
  exact ⟨rfl, rfl⟩
theorem tell_total {C : Cf} {n : Int} (h1 : 1 ≤ n) (h2 : n ≤ 4096) (hC : C.total = 0) : lineE C [tTotal, digB n] = 0 ∧ lineC C [tTotal, digB n] = ⟨n, C.period, C.perSeat, C.most, C.levels, C.schemas⟩ := by
  obtain ⟨a, b⟩ := numD (by omega) (by omega) h1 h2
  obtain ⟨e1, e2⟩ := loud (s := tTotal) (r := [digB n]) (C := C) (by decide)
  rw [e1, e2]
  simp [tellE, tellC, totalE, gt, a, b, hC, mu, ifE]
theorem tell_period {C : Cf} {n : Int} (h1 : 1 ≤ n) (h2 : n ≤ 1000) (hC : C.period = 0) : lineE C [tPeriod, digB n] = 0 ∧ lineC C [tPeriod, digB n] = ⟨C.total, n, C.perSeat, C.most, C.levels, C.schemas⟩ := by
  obtain ⟨a, b⟩ := numD (by omega) (by omega) h1 h2
  obtain ⟨e1, e2⟩ := loud (s := tPeriod) (r := [digB n]) (C := C) (by decide)
  obtain ⟨n1, n2, n3, n4, n5, n6, n7, n8, n9, n10, n11, n12, n13, n14, n15⟩ := t_ne
  rw [e1, e2]
  simp [tellE, tellC, periodE, gt, a, b, hC, mu, ifE, n1]
theorem tell_seats {C : Cf} {n m : Int} (h1 : 1 ≤ n) (h2 : n ≤ 1048576) (h3 : 1 ≤ m) (h4 : m ≤ 16) (hC : C.perSeat = 0) : lineE C [tSeats, digB n, digB m] = 0 ∧ lineC C [tSeats, digB n, digB m] = ⟨C.total, C.period, n, m, C.levels, C.schemas⟩ := by
  obtain ⟨a, b⟩ := numD (by omega) (by omega) h1 h2
  obtain ⟨c, d⟩ := numD (by omega) (by omega) h3 h4
  obtain ⟨e1, e2⟩ := loud (s := tSeats) (r := [digB n, digB m]) (C := C) (by decide)
  obtain ⟨n1, n2, n3, n4, n5, n6, n7, n8, n9, n10, n11, n12, n13, n14, n15⟩ := t_ne
  rw [e1, e2]
  simp [tellE, tellC, seatsE, gt, a, b, c, d, hC, mu, ifE, n2, n3]
theorem dig_all (n : Int) : digB n ≠ tAll := fun e => by
  have hd := dec_digits (max n 0).toNat
  have e2 : decDigits (max n 0).toNat = [97, 108, 108] := by
    have := congrArg (fun s : ByteArray => s.data.toList) e
    simpa [digB, mk_list, tAll] using this
  have := (hd 97 (by rw [e2]; simp)).2
  revert this
  decide
theorem bor_back {n : Int} (h : n = -1 ∨ (0 ≤ n ∧ n ≤ 1000)) : borrowOk (borW n) = true ∧ borrowOf (borW n) = n := by
  rcases h with rfl | ⟨h1, h2⟩
  · exact ⟨rfl, rfl⟩
  · have e : borW n = digB n := by unfold borW; rw [if_neg (by omega)]
    unfold borrowOk borrowOf
    rw [e, if_neg (dig_all n), if_neg (dig_all n)]
    exact numD h1 (by omega) h1 h2
theorem has_no {C : Cf} {x : ByteArray} (h : ∀ l ∈ C.levels, l.name ≠ x) : hasLv C x = false := by
  unfold hasLv
  rw [List.any_eq_false]
  intro l hl
  simpa using h l hl
theorem hasS_no {C : Cf} {x : ByteArray} (h : ∀ l ∈ C.schemas, l.name ≠ x) : hasSc C x = false := by
  unfold hasSc
  rw [List.any_eq_false]
  intro l hl
  simpa using h l hl
theorem tell_level {C : Cf} {l : Lv} (h : lvOk l = true) (hn : ∀ x ∈ C.levels, x.name ≠ l.name) (hl : C.levels.length < 16) :
    lineE C (lvWs l) = 0 ∧ lineC C (lvWs l) = ⟨C.total, C.period, C.perSeat, C.most, C.levels ++ [l], C.schemas⟩ := by
  obtain ⟨h1, hk⟩ := lvOk_iff.1 h
  have hno := has_no hn
  obtain ⟨n1, n2, n3, n4, n5, n6, n7, n8, n9, n10, n11, n12, n13, n14, n15⟩ := t_ne
  have hl2 : (C.levels.length : Int) < 16 := by omega
  rcases l with ⟨name, kind, shares, lend, borrow, queues, hand, length, wait, guess⟩
  simp only at *
  rcases hk with ⟨rfl, ks, kl⟩ | ⟨rfl, ks, kl⟩ | ⟨rfl, ks, kl⟩
  · obtain ⟨s1, s2, s3⟩ := noShares_iff.1 ks
    obtain ⟨z1, z2, z3, z4, z5⟩ := noLanes_iff.1 kl
    simp only at *
    subst s1 s2 s3 z1 z2 z3 z4 z5
    have e : lvWs ⟨name, 1, 0, 0, 0, 0, 0, 0, 0, 0⟩ = [tLevel, name, tExempt] := rfl
    obtain ⟨e1, e2⟩ := loud (s := tLevel) (r := [name, tExempt]) (C := C) (by decide)
    have k1 : kindW [name, tExempt] = 1 := by simp [kindW, gt]
    rw [e, e1, e2]
    simp [tellE, tellC, levelE, levelW, levelOf, k1, gt, h1, hno, hl2, mu, ifE, n4, n5, n6]
  · obtain ⟨⟨s1, s2⟩, ⟨s3, s4⟩, s5⟩ := sharesOk_iff.1 ks
    obtain ⟨z1, z2, z3, z4, z5⟩ := noLanes_iff.1 kl
    simp only at *
    subst z1 z2 z3 z4 z5
    have e : lvWs ⟨name, 2, shares, lend, borrow, 0, 0, 0, 0, 0⟩ = [tLevel, name, digB shares, digB lend, borW borrow, tReject] := rfl
    obtain ⟨e1, e2⟩ := loud (s := tLevel) (r := [name, digB shares, digB lend, borW borrow, tReject]) (C := C) (by decide)
    have k1 : kindW [name, digB shares, digB lend, borW borrow, tReject] = 2 := by simp [kindW, gt]
    obtain ⟨a1, a2⟩ := numD s1 (by omega) s1 s2
    obtain ⟨b1, b2⟩ := numD s3 (by omega) s3 s4
    obtain ⟨c1, c2⟩ := bor_back s5
    rw [e, e1, e2]
    simp [tellE, tellC, levelE, levelW, levelOf, numsE, k1, gt, h1, hno, hl2, mu, ifE, n4, n5, n6, a1, a2, b1, b2, c1, c2]
  · obtain ⟨⟨s1, s2⟩, ⟨s3, s4⟩, s5⟩ := sharesOk_iff.1 ks
    obtain ⟨⟨z1, z2⟩, ⟨z3, z4⟩, ⟨z5, z6⟩, ⟨z7, z8⟩, ⟨z9, z0⟩⟩ := lanesOk_iff.1 kl
    simp only at *
    have e : lvWs ⟨name, 3, shares, lend, borrow, queues, hand, length, wait, guess⟩ = [tLevel, name, digB shares, digB lend, borW borrow, tQueue, digB queues, digB hand, digB length, digB wait, digB guess] := rfl
    obtain ⟨e1, e2⟩ := loud (s := tLevel) (r := [name, digB shares, digB lend, borW borrow, tQueue, digB queues, digB hand, digB length, digB wait, digB guess]) (C := C) (by decide)
    have k1 : kindW [name, digB shares, digB lend, borW borrow, tQueue, digB queues, digB hand, digB length, digB wait, digB guess] = 3 := by simp [kindW, gt]
    obtain ⟨a1, a2⟩ := numD s1 (by omega) s1 s2
    obtain ⟨b1, b2⟩ := numD s3 (by omega) s3 s4
    obtain ⟨c1, c2⟩ := bor_back s5
    obtain ⟨d1, d2⟩ := numD (by omega) (by omega) z1 z2
    obtain ⟨f1, f2⟩ := numD (by omega) (by omega) z3 z4
    obtain ⟨g1, g2⟩ := numD (by omega) (by omega) z5 z6
    obtain ⟨i1, i2⟩ := numD (by omega) (by omega) z7 z8
    obtain ⟨j1, j2⟩ := numD (by omega) (by omega) z9 z0
    rw [e, e1, e2]
    simp [tellE, tellC, levelE, levelW, levelOf, numsE, queueE, k1, gt, h1, hno, hl2, mu, ifE, n4, n5, n6, a1, a2, b1, b2, c1, c2, d1, d2, f1, f2, g1, g2, i1, i2, j1, j2]
theorem by_back {n : Int} (h : n = 0 ∨ n = 1 ∨ n = 2) : byOk (byW n) = true ∧ byOf (byW n) = n := by
  rcases h with rfl | rfl | rfl <;> decide
theorem tell_schema {C : Cf} {s : Sc} (h : scOk s = true) (hn : ∀ x ∈ C.schemas, x.name ≠ s.name) (hl : C.schemas.length < 32) :
    lineE C (scWs s) = 0 ∧ lineC C (scWs s) = ⟨C.total, C.period, C.perSeat, C.most, C.levels, C.schemas ++ [⟨s.name, s.level, s.rank, s.way, []⟩]⟩ := by
  obtain ⟨h1, h2, ⟨h3, h4⟩, h5, h6, h7⟩ := scOk_iff.1 h
  have hno := hasS_no hn
  obtain ⟨n1, n2, n3, n4, n5, n6, n7, n8, n9, n10, n11, n12, n13, n14, n15⟩ := t_ne
  have hl2 : (C.schemas.length : Int) < 32 := by omega
  obtain ⟨e1, e2⟩ := loud (s := tSchema) (r := [s.name, s.level, digB s.rank, byW s.way]) (C := C) (by decide)
  obtain ⟨a1, a2⟩ := numD (by omega) (by omega) h3 h4
  obtain ⟨b1, b2⟩ := by_back h5
  unfold scWs
  rw [e1, e2]
  simp [tellE, tellC, schemaE, schemaW, schemaOf, gt, h1, h2, hno, hl2, mu, ifE, n7, n8, n9, n10, a1, a2, b1, b2]
theorem addRule_snoc (r : Rl) (s : Sc) : ∀ S : List Sc, addRule r (S ++ [s]) = S ++ [withRule r s]
  | [] => rfl
  | [x] => rfl
  | x :: y :: S => by
    have := addRule_snoc r s (y :: S)
    show x :: addRule r (y :: (S ++ [s])) = _
    rw [← List.cons_append, this]
    rfl
theorem tell_rule {C : Cf} {r : Rl} {S : List Sc} {s : Sc} (h : rlOk r = true) (hC : C.schemas = S ++ [s]) (hl : s.rules.length < 8) :
    lineE C (rlWs r) = 0 ∧ lineC C (rlWs r) = ⟨C.total, C.period, C.perSeat, C.most, C.levels, S ++ [withRule r s]⟩ := by
  obtain ⟨h1, h2, h3, h4, h5⟩ := rlOk_iff.1 h
  obtain ⟨a1, a2⟩ := list_join _ h1
  obtain ⟨b1, b2⟩ := list_join _ h2
  obtain ⟨c1, c2⟩ := list_join _ h3
  obtain ⟨d1, d2⟩ := list_join _ h4
  obtain ⟨f1, f2⟩ := list_join _ h5
  obtain ⟨n1, n2, n3, n4, n5, n6, n7, n8, n9, n10, n11, n12, n13, n14, n15⟩ := t_ne
  obtain ⟨e1, e2⟩ := loud (s := tRule) (r := rlJ r) (C := C) (by decide)
  have hp : 0 < (C.schemas.length : Int) := by rw [hC]; simp
  have hr : lastRules C = s.rules := by unfold lastRules; rw [hC, List.getLast?_concat]
  have hl2 : (s.rules.length : Int) < 8 := by omega
  have ro : ruleOf (rlJ r) = r := by
    unfold ruleOf rlJ
    simp [gt, a2, b2, c2, d2, f2]
  have rw' : ruleW C (rlJ r) = 0 := by
    unfold ruleW
    have : decide (0 < (C.schemas.length : Int)) = true := by simpa using hp
    rw [this]
    simp [rlJ, gt, a1, b1, c1, d1, f1, mu, ifE]
  have e3 : tellE C tRule (rlJ r) = 0 := by
    simp only [tellE, if_neg n11, if_neg n12, if_neg n13, if_neg n14, if_neg n15]
    unfold ruleE
    rw [rw', hr, mu_zero]
    simp [ifE, hl2]
  have e4 : tellC C tRule (rlJ r) = ⟨C.total, C.period, C.perSeat, C.most, C.levels, S ++ [withRule r s]⟩ := by
    simp only [tellC, if_neg n11, if_neg n12, if_neg n13, if_neg n14, if_neg n15]
    rw [ro, hC, addRule_snoc]
  unfold rlWs
  rw [e1, e2]
  exact ⟨e3, e4⟩

theorem leads_rules {C : Cf} {S : List Sc} {n l : ByteArray} {k y : Int} : ∀ (rs R : List Rl), (∀ r ∈ rs, rlOk r = true) → R.length + rs.length ≤ 8 →
    Leads ⟨C.total, C.period, C.perSeat, C.most, C.levels, S ++ [⟨n, l, k, y, R⟩]⟩ (rs.map rlWs) ⟨C.total, C.period, C.perSeat, C.most, C.levels, S ++ [⟨n, l, k, y, R ++ rs⟩]⟩
  | [], R, _, _ => by rw [List.append_nil]; exact Leads.nil _
  | r :: rs, R, h, hl => by
    rw [List.length_cons] at hl
    obtain ⟨e1, e2⟩ := tell_rule (C := ⟨C.total, C.period, C.perSeat, C.most, C.levels, S ++ [⟨n, l, k, y, R⟩]⟩) (S := S) (s := ⟨n, l, k, y, R⟩) (h r (List.mem_cons_self ..)) rfl (by show R.length < 8; omega)
    have ih := leads_rules (C := C) (S := S) (n := n) (l := l) (k := k) (y := y) rs (R ++ [r]) (fun x hx => h x (List.mem_cons_of_mem _ hx)) (by rw [List.length_append]; simp; omega)
    rw [List.append_assoc, List.singleton_append] at ih
    refine Leads.cons e1 ?_
    rw [e2]
    exact ih
theorem leads_schemas {C : Cf} : ∀ (ss S : List Sc), (∀ s ∈ ss, scOk s = true) → (S ++ ss).Pairwise (fun a b => a.name ≠ b.name) → S.length + ss.length ≤ 32 →
    Leads ⟨C.total, C.period, C.perSeat, C.most, C.levels, S⟩ (ss.flatMap scLs) ⟨C.total, C.period, C.perSeat, C.most, C.levels, S ++ ss⟩
  | [], S, _, _, _ => by rw [List.append_nil]; exact Leads.nil _
  | s :: ss, S, h, hp, hl => by
    rw [List.length_cons] at hl
    have hs := h s (List.mem_cons_self ..)
    have hn : ∀ x ∈ S, x.name ≠ s.name := fun x hx => (List.pairwise_append.1 hp).2.2 x hx s (List.mem_cons_self ..)
    obtain ⟨e1, e2⟩ := tell_schema (C := ⟨C.total, C.period, C.perSeat, C.most, C.levels, S⟩) hs hn (by show S.length < 32; omega)
    have ih := leads_schemas (C := C) ss (S ++ [s]) (fun x hx => h x (List.mem_cons_of_mem _ hx)) (by rw [List.append_assoc, List.singleton_append]; exact hp) (by rw [List.length_append]; simp; omega)
    rw [List.append_assoc, List.singleton_append] at ih
    have hr := leads_rules (C := C) (S := S) (n := s.name) (l := s.level) (k := s.rank) (y := s.way) s.rules [] (scOk_iff.1 hs).2.2.2.2.2 (by simpa using (scOk_iff.1 hs).2.2.2.2.1)
    rw [List.flatMap_cons]
    unfold scLs
    rw [List.cons_append]
    refine Leads.cons e1 ?_
    rw [e2]
    exact Leads.append hr ih
theorem leads_levels {C : Cf} : ∀ (ls L : List Lv), (∀ l ∈ ls, lvOk l = true) → (L ++ ls).Pairwise (fun a b => a.name ≠ b.name) → L.length + ls.length ≤ 16 →
    Leads ⟨C.total, C.period, C.perSeat, C.most, L, C.schemas⟩ (ls.map lvWs) ⟨C.total, C.period, C.perSeat, C.most, L ++ ls, C.schemas⟩
  | [], L, _, _, _ => by rw [List.append_nil]; exact Leads.nil _
  | l :: ls, L, h, hp, hl => by
    rw [List.length_cons] at hl
    have hs := h l (List.mem_cons_self ..)
    have hn : ∀ x ∈ L, x.name ≠ l.name := fun x hx => (List.pairwise_append.1 hp).2.2 x hx l (List.mem_cons_self ..)
    obtain ⟨e1, e2⟩ := tell_level (C := ⟨C.total, C.period, C.perSeat, C.most, L, C.schemas⟩) hs hn (by show L.length < 16; omega)
    have ih := leads_levels (C := C) ls (L ++ [l]) (fun x hx => h x (List.mem_cons_of_mem _ hx)) (by rw [List.append_assoc, List.singleton_append]; exact hp) (by rw [List.length_append]; simp; omega)
    rw [List.append_assoc, List.singleton_append] at ih
    rw [List.map_cons]
    refine Leads.cons e1 ?_
    rw [e2]
    exact ih
theorem leads_nums {C : Cf} (h : Formed C) : Leads cf0 (numWs C) ⟨C.total, C.period, C.perSeat, C.most, [], []⟩ := by
  unfold numWs
  have a : Leads cf0 (if C.total = 0 then [] else [[tTotal, digB C.total]]) ⟨C.total, 0, 0, 0, [], []⟩ := by
    by_cases h0 : C.total = 0
    · rw [if_pos h0, h0]; exact Leads.nil _
    · rw [if_neg h0]
      obtain ⟨e1, e2⟩ := tell_total (C := cf0) (n := C.total) (by have := h.t; omega) h.t.2 rfl
      refine Leads.cons e1 ?_
      rw [e2]
      exact Leads.nil _
  have b : Leads ⟨C.total, 0, 0, 0, [], []⟩ (if C.period = 0 then [] else [[tPeriod, digB C.period]]) ⟨C.total, C.period, 0, 0, [], []⟩ := by
    by_cases h0 : C.period = 0
    · rw [if_pos h0, h0]; exact Leads.nil _
    · rw [if_neg h0]
      obtain ⟨e1, e2⟩ := tell_period (C := ⟨C.total, 0, 0, 0, [], []⟩) (n := C.period) (by have := h.p; omega) h.p.2 rfl
      refine Leads.cons e1 ?_
      rw [e2]
      exact Leads.nil _
  have c : Leads ⟨C.total, C.period, 0, 0, [], []⟩ (if C.perSeat = 0 then [] else [[tSeats, digB C.perSeat, digB C.most]]) ⟨C.total, C.period, C.perSeat, C.most, [], []⟩ := by
    by_cases h0 : C.perSeat = 0
    · have hm : C.most = 0 := by rcases h.s with ⟨_, e⟩ | ⟨e, _⟩ <;> omega
      rw [if_pos h0, h0, hm]; exact Leads.nil _
    · rw [if_neg h0]
      have hs : (1 ≤ C.perSeat ∧ C.perSeat ≤ 1048576) ∧ (1 ≤ C.most ∧ C.most ≤ 16) := by rcases h.s with ⟨e, _⟩ | e; exact absurd e h0; exact e
      obtain ⟨e1, e2⟩ := tell_seats (C := ⟨C.total, C.period, 0, 0, [], []⟩) hs.1.1 hs.1.2 hs.2.1 hs.2.2 rfl
      refine Leads.cons e1 ?_
      rw [e2]
      exact Leads.nil _
  exact Leads.append a (Leads.append b c)
theorem leads_cf {C : Cf} (h : Formed C) : Leads cf0 (cfWs C) C := by
  have b := leads_levels (C := ⟨C.total, C.period, C.perSeat, C.most, [], []⟩) C.levels [] h.lv (by simpa using h.pl) (by simpa using h.nl)
  have c := leads_schemas (C := C) C.schemas [] h.sc (by simpa using h.ps) (by simpa using h.ns)
  rw [List.nil_append] at b c
  exact Leads.append (leads_nums h) (Leads.append b c)

/-- The text that a configuration is printed as. -/
def outB (C : Cf) : ByteArray := textB (cfWs C)
/-- It is read as it was printed. -/
theorem print_back {C : Cf} (h : Formed C) (hs : (outB C).size ≤ 65536) : parE (outB C) = 0 ∧ parC (outB C) = C := by
  have hc := clean_cf h
  have hl := leads_cf h
  obtain ⟨e1, e2⟩ := go_run (C := cf0) hc
  unfold parE parC
  rw [if_neg (by omega), if_neg (by omega)]
  unfold outB
  rw [lines_text hc, e1, e2]
  exact hl
end Go.Proofs.YtijjpblmnlednaaGreatDoor
