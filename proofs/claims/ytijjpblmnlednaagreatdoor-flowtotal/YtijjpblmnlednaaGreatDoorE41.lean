/-
  'awake'; what is let pass, told for the statement.
  Rows that are written over, element by element; a configuration whose levels and schemas stand in another order.
-/
import Derived.Test.YtijjpblmnlednaaGreatDoorE34
import Derived.Test.YtijjpblmnlednaaGreatDoorE26
namespace Go.Proofs.YtijjpblmnlednaaGreatDoor
open Go.RowKit
theorem cf0_r (w : World) : CfR w (.agg #[.int .i64 0, .int .i64 0, .int .i64 0, .int .i64 0, .slice none 0 0, .slice none 0 0]) cf0 :=
  ⟨⟨by decide, by decide⟩, ⟨(fun _ h => nomatch h), (fun _ h => nomatch h)⟩, none, 0, none, 0, [], rfl, Nat.le_refl _, Nat.le_refl _, fun h => absurd h (by decide), rfl, fun h => absurd h (by decide), fun k h => absurd h (Nat.not_lt_zero _)⟩
theorem chk0 : chk cf0 = (12, tTotal) := (chk_number (formed_iff.2 formed0) (by decide)).trans rfl
def cnt (L : List Lv) (x : ByteArray) (k : Nat) : Nat := (L.take k).countP fun l => decide (l.name = x)
theorem cnt_zero (L : List Lv) (x : ByteArray) : cnt L x 0 = 0 := rfl
theorem cnt_succ (L : List Lv) (x : ByteArray) (k : Nat) (h : k < L.length) : cnt L x (k + 1) = cnt L x k + if L[k].name = x then 1 else 0 := by
  unfold cnt
  rw [List.take_succ_eq_append_getElem h, List.countP_append, List.countP_singleton]
  by_cases e : L[k].name = x <;> simp [e]
theorem cnt_le (L : List Lv) (x : ByteArray) (k : Nat) : cnt L x k ≤ k := by
  unfold cnt
  exact Nat.le_trans List.countP_le_length (by rw [List.length_take]; omega)
theorem count_one : ∀ {L : List Lv} {x : ByteArray}, L.Pairwise (fun a b => a.name ≠ b.name) → anyL L x = true → L.countP (fun l => decide (l.name = x)) = 1
  | [], _, _, h => by simp [anyL] at h
  | l :: r, x, hp, h => by
    obtain ⟨h1, h2⟩ := List.pairwise_cons.1 hp
    by_cases e : l.name = x
    · rw [List.countP_cons_of_pos (by simpa using e)]
      have : r.countP (fun l => decide (l.name = x)) = 0 := List.countP_eq_zero.2 fun y hy => by
        have := h1 y hy
        rw [e] at this
        simpa using fun q => this q.symm
      omega
    · rw [List.countP_cons_of_neg (by simpa using e)]
      refine count_one h2 ?_
      unfold anyL at h ⊢
      rw [List.any_cons, decide_eq_false e, Bool.false_or] at h
      exact h
theorem Passes.one {C : Cf} (h : Passes C) {s : Sc} (hs : s ∈ C.schemas) : cnt C.levels s.level C.levels.length = 1 := by
  unfold cnt
  rw [List.take_length]
  refine count_one h.f.pl ?_
  have := h.s s hs
  unfold scErr at this
  cases ha : anyL C.levels s.level with
  | true => rfl
  | false => rw [ha] at this; simp at this
theorem Passes.hands {C : Cf} (h : Passes C) {l : Lv} (hl : l ∈ C.levels) (hk : l.kind = 3) : refH l.queues l.hand = 0 := by
  have := h.l l hl
  unfold lvErr at this
  cases hq : (refH l.queues l.hand == 0) with
  | true => simpa using hq
  | false =>
    rw [if_pos ⟨hk, by simpa using hq⟩] at this
    exact this
theorem Passes.shares {C : Cf} (h : Passes C) {l : Lv} (hl : l ∈ C.levels) : 0 ≤ l.shares ∧ l.shares ≤ 10000 := by
  obtain ⟨-, h1 | h1 | h1⟩ := lvOk_iff.1 (h.f.lv l hl)
  · have := (noShares_iff.1 h1.2.1).1; omega
  · exact (sharesOk_iff.1 h1.2.1).1
  · exact (sharesOk_iff.1 h1.2.1).1
theorem any_at {L : List Lv} {x : ByteArray} (h : anyL L x = true) : ∃ j, ∃ h : j < L.length, L[j].name = x := by
  unfold anyL at h
  obtain ⟨l, hl, e⟩ := List.any_eq_true.1 h
  obtain ⟨j, hj, rfl⟩ := List.getElem_of_mem hl
  exact ⟨j, hj, by simpa using e⟩
theorem Passes.fit {C : Cf} (h : Passes C) {l : Lv} (hl : l ∈ C.levels) : lvFit l = true := by
  have := h.l l hl
  unfold lvErr at this
  cases hf : lvFit l with
  | true => rfl
  | false =>
    rw [hf] at this
    split at this
    · rename_i q; exact absurd this q.2
    · simp at this
theorem Passes.ex {C : Cf} (h : Passes C) : ∃ j, ∃ h : j < C.levels.length, C.levels[j].kind = 1 := by
  obtain ⟨j, hj, e⟩ := any_at h.p.1
  refine ⟨j, hj, ?_⟩
  have := h.fit (List.getElem_mem hj)
  unfold lvFit at this
  rw [if_pos e] at this
  simpa using this
theorem Passes.sh {C : Cf} (h : Passes C) : ∃ j, ∃ h : j < C.levels.length, 0 < C.levels[j].shares := by
  obtain ⟨j, hj, e⟩ := any_at h.p.2.1
  refine ⟨j, hj, ?_⟩
  have h1 := h.fit (List.getElem_mem hj)
  unfold lvFit at h1
  rw [if_neg (by rw [e]; decide), if_pos e] at h1
  simp only [Bool.and_eq_true, bne_iff_ne] at h1
  have h2 := h.shares (List.getElem_mem hj)
  omega
theorem Passes.nums {C : Cf} (h : Passes C) : 0 < C.total ∧ 0 < C.period ∧ 0 < C.perSeat ∧ 0 < C.most := by
  obtain ⟨n1, n2, n3⟩ := h.n
  have t := h.f.t
  have p := h.f.p
  rcases h.f.s with s | s
  · exact absurd s.1 n3
  · omega
/-- A row of n elements of z cells, of which the first i are laid. -/
def Wr (w : World) (g t z n i : Nat) (F : Nat → List Value) : Prop := ∃ cur, Blk w g t cur ∧ n * z ≤ cur.size ∧ ∀ k, k < i → ∀ j, j < z → cur[k * z + j]? = (F k)[j]?
theorem Wr.kept {w w' : World} {g t z n i : Nat} {F : Nat → List Value} {S : Nat → Prop} (h : Wr w g t z n i F) (k : Kept S w w') (hS : ¬ S g) : Wr w' g t z n i F := by
  obtain ⟨cur, h1, h2, h3⟩ := h
  exact ⟨cur, h1.kept k hS, h2, h3⟩
theorem Wr.lt {w : World} {g t z n i : Nat} {F : Nat → List Value} (h : Wr w g t z n i F) : g < w.heap.size := by
  obtain ⟨cur, h1, -⟩ := h
  exact h1.lt
theorem Wr.room {w : World} {g t z n i q : Nat} {F : Nat → List Value} (h : Wr w g t z n i F) (hq : q < n * z) : (∃ y, w.cell? ⟨g, q, none⟩ = some y) ∧ w.frozen? ⟨g, q, none⟩ = false := by
  obtain ⟨cur, hb, hk, -⟩ := h
  exact ⟨⟨cur[q], by rw [hb.cell q]; exact Array.getElem?_eq_getElem (by omega)⟩, hb.frozen q⟩
theorem set_get {cur : Array Value} {i j : Nat} {v : Value} (h : i < cur.size) : (cur.setIfInBounds i v)[j]? = if i = j then some v else cur[j]? := by
  rw [Array.getElem?_setIfInBounds]
  by_cases e : i = j
  · subst e; simp [h]
  · simp [e]
theorem Wr.put10 {w : World} {g t n i : Nat} {F : Nat → List Value} (h : Wr w g t 10 n i F) (hi : i < n) (v0 v1 v2 v3 v4 v5 v6 v7 v8 v9 : Value) (hF : F i = [v0, v1, v2, v3, v4, v5, v6, v7, v8, v9]) :
    Wr ((((((((((w.setCell ⟨g, i * 10, none⟩ v0).setCell ⟨g, i * 10 + 1, none⟩ v1).setCell ⟨g, i * 10 + 2, none⟩ v2).setCell ⟨g, i * 10 + 3, none⟩ v3).setCell ⟨g, i * 10 + 4, none⟩ v4).setCell ⟨g, i * 10 + 5, none⟩ v5).setCell ⟨g, i * 10 + 6, none⟩ v6).setCell ⟨g, i * 10 + 7, none⟩ v7).setCell ⟨g, i * 10 + 8, none⟩ v8).setCell ⟨g, i * 10 + 9, none⟩ v9) g t 10 n (i + 1) F
    ∧ Kept (fun k => k = g) w ((((((((((w.setCell ⟨g, i * 10, none⟩ v0).setCell ⟨g, i * 10 + 1, none⟩ v1).setCell ⟨g, i * 10 + 2, none⟩ v2).setCell ⟨g, i * 10 + 3, none⟩ v3).setCell ⟨g, i * 10 + 4, none⟩ v4).setCell ⟨g, i * 10 + 5, none⟩ v5).setCell ⟨g, i * 10 + 6, none⟩ v6).setCell ⟨g, i * 10 + 7, none⟩ v7).setCell ⟨g, i * 10 + 8, none⟩ v8).setCell ⟨g, i * 10 + 9, none⟩ v9) := by
  obtain ⟨cur, hb, hs, hc⟩ := h
  refine ⟨⟨_, (((((((((hb.set (i * 10) v0).set (i * 10 + 1) v1).set (i * 10 + 2) v2).set (i * 10 + 3) v3).set (i * 10 + 4) v4).set (i * 10 + 5) v5).set (i * 10 + 6) v6).set (i * 10 + 7) v7).set (i * 10 + 8) v8).set (i * 10 + 9) v9, by simpa using hs, fun k hk j hj => ?_⟩,
    ((((((((((Kept.refl (fun k => k = g) w).setCell _ _ (.inl rfl)).setCell _ _ (.inl rfl)).setCell _ _ (.inl rfl)).setCell _ _ (.inl rfl)).setCell _ _ (.inl rfl)).setCell _ _ (.inl rfl)).setCell _ _ (.inl rfl)).setCell _ _ (.inl rfl)).setCell _ _ (.inl rfl)).setCell _ _ (.inl rfl)⟩
  have hlt : i * 10 + 9 < cur.size := by omega
  rcases Nat.lt_or_eq_of_le (Nat.le_of_lt_succ hk) with h' | h'
  · rw [← hc k h' j hj]
    repeat rw [set_get (by first | omega | (simp only [Array.size_setIfInBounds]; omega))]
    repeat rw [if_neg (by omega)]
  · subst h'
    rw [hF]
    repeat rw [set_get (by first | omega | (simp only [Array.size_setIfInBounds]; omega))]
    match j, hj with
    | 0, _ => simp
    | 1, _ => simp
    | 2, _ => simp
    | 3, _ => simp
    | 4, _ => simp
    | 5, _ => simp
    | 6, _ => simp
    | 7, _ => simp
    | 8, _ => simp
    | 9, _ => simp
theorem Wr.put5 {w : World} {g t n i : Nat} {F : Nat → List Value} (h : Wr w g t 5 n i F) (hi : i < n) (v0 v1 v2 v3 v4 : Value) (hF : F i = [v0, v1, v2, v3, v4]) :
    Wr (((((w.setCell ⟨g, i * 5, none⟩ v0).setCell ⟨g, i * 5 + 1, none⟩ v1).setCell ⟨g, i * 5 + 2, none⟩ v2).setCell ⟨g, i * 5 + 3, none⟩ v3).setCell ⟨g, i * 5 + 4, none⟩ v4) g t 5 n (i + 1) F
    ∧ Kept (fun k => k = g) w (((((w.setCell ⟨g, i * 5, none⟩ v0).setCell ⟨g, i * 5 + 1, none⟩ v1).setCell ⟨g, i * 5 + 2, none⟩ v2).setCell ⟨g, i * 5 + 3, none⟩ v3).setCell ⟨g, i * 5 + 4, none⟩ v4) := by
  obtain ⟨cur, hb, hs, hc⟩ := h
  refine ⟨⟨_, ((((hb.set (i * 5) v0).set (i * 5 + 1) v1).set (i * 5 + 2) v2).set (i * 5 + 3) v3).set (i * 5 + 4) v4, by simpa using hs, fun k hk j hj => ?_⟩,
    (((((Kept.refl (fun k => k = g) w).setCell _ _ (.inl rfl)).setCell _ _ (.inl rfl)).setCell _ _ (.inl rfl)).setCell _ _ (.inl rfl)).setCell _ _ (.inl rfl)⟩
  have hlt : i * 5 + 4 < cur.size := by omega
  rcases Nat.lt_or_eq_of_le (Nat.le_of_lt_succ hk) with h' | h'
  · rw [← hc k h' j hj]
    repeat rw [set_get (by first | omega | (simp only [Array.size_setIfInBounds]; omega))]
    repeat rw [if_neg (by omega)]
  · subst h'
    rw [hF]
    repeat rw [set_get (by first | omega | (simp only [Array.size_setIfInBounds]; omega))]
    match j, hj with
    | 0, _ => simp
    | 1, _ => simp
    | 2, _ => simp
    | 3, _ => simp
    | 4, _ => simp

/-- An own configuration stays when a box is written. -/
theorem CfW.off {B : Nat} {S : Nat → Prop} {w w' : World} {v : Value} {C : Cf} (h : CfW B w v C) (k : Kept S w w') (o9 : Off 9 S w) (o40 : Off 45 S w) (o46 : Off 53 S w) (o51 : Off 50 S w) : CfW B w' v C := by
  obtain ⟨vL, vS, V, e, h1, h2⟩ := h.ex
  exact ⟨vL, vS, V, e, h1.off k o40, h2.off k o9 o51 o46⟩

/-- The i-th of r that are turned by t. -/
def rotI (r t i : Nat) : Nat := (i + t) % r
theorem rotI_lt {r t i : Nat} (h : i < r) : rotI r t i < r := Nat.mod_lt _ (by omega)
def rotL {α : Type} (L : List α) (t : Nat) : List α := L.drop t ++ L.take t
theorem rotL_len {α : Type} (L : List α) (t : Nat) (ht : t < L.length) : (rotL L t).length = L.length := by
  unfold rotL; rw [List.length_append, List.length_drop, List.length_take]; omega
theorem rotL_at {α : Type} (L : List α) (t i : Nat) (ht : t < L.length) (h : i < L.length) : (rotL L t)[i]'(by rw [rotL_len L t ht]; exact h) = L[rotI L.length t i]'(rotI_lt h) := by
  unfold rotL
  by_cases h' : i + t < L.length
  · rw [List.getElem_append_left (by rw [List.length_drop]; omega), List.getElem_drop]
    congr 1
    unfold rotI
    rw [Nat.mod_eq_of_lt h']; omega
  · rw [List.getElem_append_right (by rw [List.length_drop]; omega), List.getElem_take]
    congr 1
    unfold rotI
    rw [List.length_drop, Nat.mod_eq_sub_mod (by omega), Nat.mod_eq_of_lt (by omega)]; omega
theorem rot_perm {α : Type} (L : List α) (t : Nat) : (rotL L t).Perm L :=
  (List.perm_append_comm).trans (by rw [List.take_append_drop])

theorem errV_two (p : Int × ByteArray) : ∃ q : Value, q = errV p ∧ ((q = .nilIface ∧ p.1 = 0) ∨ ∃ a b, q = .iface 90 (.agg #[.int .i64 0, .string a, .iface 41 (.int .i64 b)]) ∧ p.1 ≠ 0) := by
  refine ⟨_, rfl, ?_⟩
  by_cases h : p.1 = 0
  · exact .inl ⟨if_pos h, h⟩
  · exact .inr ⟨p.2, p.1, (if_neg h).trans rfl, h⟩
/-- The cells of the k-th level, of the k-th schema. -/
def lvF (L : List Lv) (k : Nat) : List Value := (L[k]?.map lvC).getD []
theorem lvF_at {L : List Lv} {k : Nat} (h : k < L.length) : lvF L k = lvC L[k] := by unfold lvF; rw [List.getElem?_eq_getElem h]; rfl
def scF (S : List Sc) (V : List Value) (k : Nat) : List Value := match S[k]?, V[k]? with
  | some s, some v => scC s v
  | _, _ => []
theorem scF_at {S : List Sc} {V : List Value} {k : Nat} (h : k < S.length) (h' : k < V.length) : scF S V k = scC S[k] V[k] := by
  unfold scF; rw [List.getElem?_eq_getElem h, List.getElem?_eq_getElem h']
theorem Wr.lvr {w : World} {g n : Nat} {L : List Lv} (h : Wr w g 45 10 n n (lvF L)) (hn : n = L.length) : LvR w (some ⟨g, 0, none⟩) L := fun _ => by
  obtain ⟨cur, hb, -, hc⟩ := h
  refine ⟨g, 0, rfl, hb.lt, fun k hk j hj => ?_⟩
  rw [Nat.zero_add, hb.cell, hc k (by omega) j hj, lvF_at hk]
theorem Wr.scr {w : World} {g n : Nat} {S : List Sc} {V : List Value} (h : Wr w g 53 5 n n (scF S V)) (hn : n = S.length) : ScR w (some ⟨g, 0, none⟩) S V := fun _ => by
  obtain ⟨cur, hb, -, hc⟩ := h
  refine ⟨g, 0, rfl, hb.lt, fun k hk hk' j hj => ?_⟩
  rw [Nat.zero_add, hb.cell, hc k (by omega) j hj, scF_at hk hk']
end Go.Proofs.YtijjpblmnlednaaGreatDoor
