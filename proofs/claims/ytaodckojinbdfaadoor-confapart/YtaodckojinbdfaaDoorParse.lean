/-
  What 'Parse' of the program answers. Condition: the text's length is a number of its type.
-/
import Derived.Test.YtaodckojinbdfaaDoorLine
import Derived.Test.YtaodckojinbdfaaDoorFWalkG
namespace Go.Proofs.YtaodckojinbdfaaDoor
open Go.RowKit

/-- A configuration as a value. -/
def CfV (B : Nat) (w : World) (v : Value) (C : Cf) : Prop :=
  ∃ vL vS V, v = .agg #[.int .i64 C.total, .int .i64 C.period, .int .i64 C.perSeat, .int .i64 C.most, vL, vS] ∧ LvOwn B w vL C.levels ∧ ScOwn B w vS C.schemas V
/-- An error with its line, or none. -/
def errV (e : Int) (l : Nat) : Value := if e = 0 then .nilIface else val (.inl e) [⟨(l : Int), ⟨#[]⟩⟩]

theorem cfv_zero (B : Nat) (w : World) : CfV B w (.agg #[.int .i64 0, .int .i64 0, .int .i64 0, .int .i64 0, .slice none 0 0, .slice none 0 0]) cf0 :=
  ⟨_, _, [], rfl, World.ownsRow_nil _ _ _ _, ⟨rfl, World.ownsRow_nil _ _ _ _, fun _ h => absurd h (Nat.not_lt_zero _)⟩⟩

theorem Lst.mono {B B' : Nat} {w : World} {v : Value} {L : List ByteArray} (h : Lst B w v L) (k : B' ≤ B) : Lst B' w v L := by
  obtain ⟨a, c, e, hr, hc⟩ := h
  exact ⟨a, c, e, hr.mono k, hc⟩
theorem RlV.mono {B B' : Nat} {w : World} {cs : List Value} {r : Rl} (h : RlV B w cs r) (k : B' ≤ B) : RlV B' w cs r := by
  obtain ⟨v0, v1, v2, v3, v4, e, h0, h1, h2, h3, h4⟩ := h
  exact ⟨v0, v1, v2, v3, v4, e, h0.mono k, h1.mono k, h2.mono k, h3.mono k, h4.mono k⟩
theorem RlsV.mono {B B' : Nat} {w : World} (k : B' ≤ B) : ∀ (cs : List Value) (rs : List Rl), RlsV B w cs rs → RlsV B' w cs rs
  | _, [], h => h
  | _, _ :: rs, ⟨c, cs', e, hr, ht⟩ => ⟨c, cs', e, hr.mono k, RlsV.mono k cs' rs ht⟩
theorem ScOwn.mono {B B' : Nat} {w : World} {v : Value} {ss : List Sc} {V : List Value} (h : ScOwn B w v ss V) (k : B' ≤ B) : ScOwn B' w v ss V :=
  ⟨h.len, owns_mono h.own k, fun i hi hi' => by obtain ⟨cs, ho, hr⟩ := h.rls i hi hi'; exact ⟨cs, owns_mono ho k, RlsV.mono k cs _ hr⟩⟩

/-! ### the words of a line -/
theorem words_count (c : UInt8) : ∀ l : List UInt8, ((cutL c l).filter neL).length ≤ l.length
  | [] => by simp [cutL, neL]
  | b :: l => by
    have ih := words_count c l
    unfold cutL
    split
    · rw [List.filter_cons]
      simp [neL] at ih ⊢
      omega
    · cases hc : cutL c l with
      | nil => exact absurd hc (cutL_ne c l)
      | cons h t =>
        rw [hc, List.filter_cons] at ih
        rw [List.filter_cons]
        simp only [List.headD_cons, List.tail_cons, List.length_cons]
        split at ih <;> simp_all [neL] <;> omega
theorem words_len (s : ByteArray) : (wordsB s).length ≤ s.size := by
  unfold wordsB
  rw [List.length_map, ← size_list]
  exact words_count 32 _
theorem words_mem {s x : ByteArray} (h : x ∈ wordsB s) : 0 < x.size ∧ x.size ≤ s.size := by
  unfold wordsB wordsL at h
  obtain ⟨l, hl, rfl⟩ := List.mem_map.1 h
  obtain ⟨h1, h2⟩ := List.mem_filter.1 hl
  have h3 := piece_le 32 _ l h1
  rw [size_list] at h3
  rw [← size_list, mk_list]
  refine ⟨?_, h3⟩
  cases l with
  | nil => simp [neL] at h2
  | cons _ _ => simp
theorem words_sh (s : ByteArray) (hs : s.size ≤ 65536) (k : Nat) : (gt (wordsB s) k).size ≤ 65536 := by
  rcases Nat.lt_or_ge k (wordsB s).length with h | h
  · have := (words_mem (gt_mem h)).2
    omega
  · unfold gt
    rw [List.getD_eq_getElem?_getD, List.getElem?_eq_none h]
    exact Nat.zero_le _
theorem line_size {s x : ByteArray} (h : x ∈ linesB s) : x.size ≤ s.size := by
  have h1 : x ∈ cutB 10 s := by
    unfold linesB at h
    split at h
    · exact List.dropLast_subset _ h
    · exact h
  unfold cutB at h1
  obtain ⟨l, hl, rfl⟩ := List.mem_map.1 h1
  have h3 := piece_le 10 _ l hl
  rw [size_list] at h3
  rw [← size_list, mk_list]
  exact h3
theorem lines_len (s : ByteArray) : (linesB s).length ≤ s.size + 1 := by
  have h1 := cutB_len 10 s
  have h2 := count_le s 10
  unfold linesB
  split
  · rw [List.length_dropLast]; omega
  · omega

theorem fit0 : Fit cf0 := ⟨by decide, by decide⟩
theorem addRule_len (r : Rl) : ∀ l : List Sc, (addRule r l).length = l.length
  | [] => rfl
  | [_] => rfl
  | _ :: b :: l => by
    have := addRule_len r (b :: l)
    show (addRule r (b :: l)).length + 1 = _
    rw [this]
    rfl
theorem fit_line {C : Cf} {ws : List ByteArray} (h : Fit C) (hE : lineE C ws = 0) : Fit (lineC C ws) := by
  unfold lineE at hE
  unfold lineC
  split at hE
  · rename_i hs; rw [if_pos hs]; exact h
  · rename_i hs
    rw [if_neg hs]
    unfold tellE at hE
    unfold tellC
    obtain ⟨h1, h2⟩ := h
    split at hE
    · rename_i h; rw [if_pos h]; exact ⟨h1, h2⟩
    · rename_i h; rw [if_neg h]
      split at hE
      · rename_i h; rw [if_pos h]; exact ⟨h1, h2⟩
      · rename_i h; rw [if_neg h]
        split at hE
        · rename_i h; rw [if_pos h]; exact ⟨h1, h2⟩
        · rename_i h; rw [if_neg h]
          split at hE
          · rename_i h; rw [if_pos h]
            have := of_decide_eq_true ((ifE_eq_zero (by decide)).1 (mu_eq_zero.1 hE).2)
            refine ⟨?_, h2⟩
            show (C.levels ++ [_]).length ≤ 16
            rw [List.length_append]
            show C.levels.length + 1 ≤ 16
            omega
          · rename_i h; rw [if_neg h]
            split at hE
            · rename_i h; rw [if_pos h]
              have := of_decide_eq_true ((ifE_eq_zero (by decide)).1 (mu_eq_zero.1 hE).2)
              refine ⟨h1, ?_⟩
              show (C.schemas ++ [_]).length ≤ 32
              rw [List.length_append]
              show C.schemas.length + 1 ≤ 32
              omega
            · rename_i h; rw [if_neg h]
              refine ⟨h1, ?_⟩
              show (addRule _ C.schemas).length ≤ 32
              rw [addRule_len]
              exact h2

theorem go_step0 {C : Cf} {L : List ByteArray} {k : Nat} (hk : k < L.length) (h : lineE C (wordsB (gt L k)) = 0) :
    goE C (L.drop k) = goE (lineC C (wordsB (gt L k))) (L.drop (k + 1)) ∧ goC C (L.drop k) = goC (lineC C (wordsB (gt L k))) (L.drop (k + 1)) ∧ goL C k (L.drop k) = goL (lineC C (wordsB (gt L k))) (k + 1) (L.drop (k + 1)) := by
  rw [gt_eq hk] at h ⊢
  rw [List.drop_eq_getElem_cons hk]
  refine ⟨?_, ?_, ?_⟩
  · show (if _ then _ else _) = _; rw [if_pos h]
  · show (if _ then _ else _) = _; rw [if_pos h]
  · show (if _ then _ else _) = _; rw [if_pos h]
theorem go_step1 {C : Cf} {L : List ByteArray} {k : Nat} (hk : k < L.length) (h : lineE C (wordsB (gt L k)) ≠ 0) :
    goE C (L.drop k) = lineE C (wordsB (gt L k)) ∧ goC C (L.drop k) = cf0 ∧ goL C k (L.drop k) = k + 1 := by
  rw [gt_eq hk] at h ⊢
  rw [List.drop_eq_getElem_cons hk]
  refine ⟨?_, ?_, ?_⟩
  · show (if _ then _ else _) = _; rw [if_neg h]
  · show (if _ then _ else _) = _; rw [if_neg h]
  · show (if _ then _ else _) = _; rw [if_neg h]

theorem res5 (tmps : Array Value) (w : World) (r0 : Nat) (v0 v1 v2 v3 v4 v5 er : Value) (ht : tmps[2]?.getD undef = .pointer (some ⟨r0, 0, none⟩)) (he : tmps[3]?.getD undef = er) (h : Blk w r0 30 #[v0, v1, v2, v3, v4, v5]) :
    (results Tryd.f9 tmps).run Tryd.prog w = .ok (.tuple #[.agg #[v0, v1, v2, v3, v4, v5], er]) w := by
  have c0 := h.cellv 0 rfl
  have c1 := h.cellv 1 rfl
  have c2 := h.cellv 2 rfl
  have c3 := h.cellv 3 rfl
  have c4 := h.cellv 4 rfl
  have c5 := h.cellv 5 rfl
  simp at c0 c1 c2 c3 c4 c5
  simp [results, Tryd.results9, go_sem, ht, he, c0, c1, c2, c3, c4, c5]

/-- The state of the reading behind k lines. -/
structure PS (w wr : World) (L : List ByteArray) (a : Option Addr) (k : Nat) (C : Cf) : Prop where
  bel : Below w.heap.size w wr
  res : Blk wr w.heap.size 30 #[.int .i64 0, .int .i64 0, .int .i64 0, .int .i64 0, .slice none 0 0, .slice none 0 0]
  cfg : Cfg (w.heap.size + 1) wr (w.heap.size + 1) C
  row : RowY 0 wr a L
  fit : Fit C
  eE : goE cf0 L = goE C (L.drop k)
  eC : goC cf0 L = goC C (L.drop k)
  eL : goL cf0 0 L = goL C k (L.drop k)

end Go.Proofs.YtaodckojinbdfaaDoor
