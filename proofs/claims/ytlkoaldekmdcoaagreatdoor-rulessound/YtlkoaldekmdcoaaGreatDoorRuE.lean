/-
  'awake'; what is let pass, told for the statement. Condition: errorType holds what its text lays.
-/
import Derived.Test.YtlkoaldekmdcoaaGreatDoorRuD
import Derived.Test.YtlkoaldekmdcoaaGreatDoorFlM
namespace Go.Proofs.YtlkoaldekmdcoaaGreatDoor
open Go.RowKit

theorem cf0_r (w : World) : CfR w (.agg #[.int .i64 0, .int .i64 0, .int .i64 0, .int .i64 0, .slice none 0 0, .slice none 0 0]) cf0 :=
  ⟨⟨by decide, by decide⟩, ⟨(fun _ h => nomatch h), (fun _ h => nomatch h)⟩, none, 0, none, 0, [], rfl, Nat.le_refl _, Nat.le_refl _, fun h => absurd h (by decide), rfl, fun h => absurd h (by decide), fun k h => absurd h (Nat.not_lt_zero _)⟩
theorem chk0 : chk cf0 = (12, tTotal) := (chk_number (formed_iff.2 formed0) (by decide)).trans rfl
theorem what_one (S : ByteArray) : (near (fun _ y => !y.toList.isEmpty) [⟨0, S⟩]).what = S := by
  unfold near near
  cases h : S.toList.isEmpty with
  | false => simp
  | true =>
    have e : S = ⟨#[]⟩ := by
      rw [ByteArray.toList_eq] at h
      apply list_inj
      simpa using h
    subst e
    simp
theorem code_one (n : Int) (S : ByteArray) : codeOf (.inl n) [⟨0, S⟩] = n := rfl
theorem code_val (n : Int) (S : ByteArray) (w : World) (he : ET w) : Calls Tryz.prog 12 #[val (.inl n) [⟨0, S⟩]] w fun e w' => e = .returned (.int .i64 n) ∧ Below w.heap.size w w' := code_ok (.inl n) [⟨0, S⟩] w he
theorem what_val (n : Int) (S : ByteArray) (w : World) (he : ET w) : Calls Tryz.prog 13 #[val (.inl n) [⟨0, S⟩]] w fun e w' => e = .returned (.string S) ∧ Below w.heap.size w w' := by
  have := what_ok (.inl n) [⟨0, S⟩] w he
  rw [what_one] at this
  exact this
set_option maxRecDepth 20000 in
theorem awake_ok (w : World) (he : ET w) : Calls Tryz.prog 6 #[] w fun e w' => e = .returned (.bool true) ∧ Below w.heap.size w w' := by
  have P1 := check_ok _ cf0 w (cf0_r w)
  rw [chk0, errV_no (by decide)] at P1
  have HC : Hd (∀ W, Below w.heap.size w W → Calls Tryz.prog 12 #[val (.inl 12) [⟨0, tTotal⟩]] W fun e w' => e = .returned (.int .i64 12) ∧ Below W.heap.size W w') := ⟨fun W b => code_val 12 tTotal W (he.stays b)⟩
  have HW : Hd (∀ W, Below w.heap.size w W → Calls Tryz.prog 13 #[val (.inl 12) [⟨0, tTotal⟩]] W fun e w' => e = .returned (.string tTotal) ∧ Below W.heap.size W w') := ⟨fun W b => what_val 12 tTotal W (he.stays b)⟩
  have hv : val (.inl 12) [⟨0, tTotal⟩] = .iface 71 (.agg #[.int .i64 0, .string tTotal, .iface 35 (.int .i64 12)]) := rfl
  rw [hv] at P1 HC HW
  unfold tTotal at P1 HC HW
  clear he hv
  go_enter Tryz.func6, Tryz.ntmps6
  go_wp2_with (go_at_call 10; refine P1.mono ?_; rintro e w2 ⟨rfl, b2⟩)
  go_at_call 12
  refine (HC.out w2 b2).mono ?_
  rintro e w3 ⟨rfl, b3⟩
  have B3 : Below w.heap.size w w3 := b2.trans (b3.mono b2.size)
  have Q := HW.out w3 B3
  clear P1 HC HW b2 b3
  go_wp2_with (go_at_call 13; refine Q.mono ?_; rintro e w4 ⟨rfl, b4⟩)
  go_ret
  exact ⟨rfl, B3.trans (b4.mono B3.size)⟩

/-- How often a name stands among the first levels. -/
def cnt (L : List Lv) (x : ByteArray) (k : Nat) : Nat := (L.take k).countP fun l => decide (l.name = x)
theorem cnt_zero (L : List Lv) (x : ByteArray) : cnt L x 0 = 0 := rfl
theorem cnt_succ (L : List Lv) (x : ByteArray) (k : Nat) (h : k < L.length) : cnt L x (k + 1) = cnt L x k + if L[k].name = x then 1 else 0 := by
  unfold cnt
  rw [List.take_succ_eq_append_getElem h, List.countP_append, List.countP_singleton]
  by_cases e : L[k].name = x <;> simp [e]
theorem cnt_le (L : List Lv) (x : ByteArray) (k : Nat) : cnt L x k ≤ k := by
  unfold cnt
  exact Nat.le_trans List.countP_le_length (by rw [List.length_take]; omega)
theorem count_one : ∀ {L : List Lv} {x : ByteArray}, L.Pairwise (fun a b => a.name ≠ b.name) → anyL L x = true → L.countP (fun l => decide (l.name = x)) = 1
  | [], _, _, h => by simp [anyL] at h
  | l :: r, x, hp, h => by
    obtain ⟨h1, h2⟩ := List.pairwise_cons.1 hp
    by_cases e : l.name = x
    · rw [List.countP_cons_of_pos (by simpa using e)]
      have : r.countP (fun l => decide (l.name = x)) = 0 := List.countP_eq_zero.2 fun y hy => by
        have := h1 y hy
        rw [e] at this
        simpa using fun q => this q.symm
      omega
    · rw [List.countP_cons_of_neg (by simpa using e)]
      refine count_one h2 ?_
      unfold anyL at h ⊢
      rw [List.any_cons, decide_eq_false e, Bool.false_or] at h
      exact h
theorem Passes.one {C : Cf} (h : Passes C) {s : Sc} (hs : s ∈ C.schemas) : cnt C.levels s.level C.levels.length = 1 := by
  unfold cnt
  rw [List.take_length]
  refine count_one h.f.pl ?_
  have := h.s s hs
  unfold scErr at this
  cases ha : anyL C.levels s.level with
  | true => rfl
  | false => rw [ha] at this; simp at this
theorem Passes.hands {C : Cf} (h : Passes C) {l : Lv} (hl : l ∈ C.levels) (hk : l.kind = 3) : refH l.queues l.hand = 0 := by
  have := h.l l hl
  unfold lvErr at this
  cases hq : (refH l.queues l.hand == 0) with
  | true => simpa using hq
  | false =>
    rw [if_pos ⟨hk, by simpa using hq⟩] at this
    exact this
theorem Passes.shares {C : Cf} (h : Passes C) {l : Lv} (hl : l ∈ C.levels) : 0 ≤ l.shares ∧ l.shares ≤ 10000 := by
  obtain ⟨-, h1 | h1 | h1⟩ := lvOk_iff.1 (h.f.lv l hl)
  · have := (noShares_iff.1 h1.2.1).1; omega
  · exact (sharesOk_iff.1 h1.2.1).1
  · exact (sharesOk_iff.1 h1.2.1).1
theorem any_at {L : List Lv} {x : ByteArray} (h : anyL L x = true) : ∃ j, ∃ h : j < L.length, L[j].name = x := by
  unfold anyL at h
  obtain ⟨l, hl, e⟩ := List.any_eq_true.1 h
  obtain ⟨j, hj, rfl⟩ := List.getElem_of_mem hl
  exact ⟨j, hj, by simpa using e⟩
theorem Passes.fit {C : Cf} (h : Passes C) {l : Lv} (hl : l ∈ C.levels) : lvFit l = true := by
  have := h.l l hl
  unfold lvErr at this
  cases hf : lvFit l with
  | true => rfl
  | false =>
    rw [hf] at this
    split at this
    · rename_i q; exact absurd this q.2
    · simp at this
theorem Passes.ex {C : Cf} (h : Passes C) : ∃ j, ∃ h : j < C.levels.length, C.levels[j].kind = 1 := by
  obtain ⟨j, hj, e⟩ := any_at h.p.1
  refine ⟨j, hj, ?_⟩
  have := h.fit (List.getElem_mem hj)
  unfold lvFit at this
  rw [if_pos e] at this
  simpa using this
theorem Passes.sh {C : Cf} (h : Passes C) : ∃ j, ∃ h : j < C.levels.length, 0 < C.levels[j].shares := by
  obtain ⟨j, hj, e⟩ := any_at h.p.2.1
  refine ⟨j, hj, ?_⟩
  have h1 := h.fit (List.getElem_mem hj)
  unfold lvFit at h1
  rw [if_neg (by rw [e]; decide), if_pos e] at h1
  simp only [Bool.and_eq_true, bne_iff_ne] at h1
  have h2 := h.shares (List.getElem_mem hj)
  omega
theorem Passes.nums {C : Cf} (h : Passes C) : 0 < C.total ∧ 0 < C.period ∧ 0 < C.perSeat ∧ 0 < C.most := by
  obtain ⟨n1, n2, n3⟩ := h.n
  have t := h.f.t
  have p := h.f.p
  rcases h.f.s with s | s
  · exact absurd s.1 n3
  · omega

end Go.Proofs.YtlkoaldekmdcoaaGreatDoor
