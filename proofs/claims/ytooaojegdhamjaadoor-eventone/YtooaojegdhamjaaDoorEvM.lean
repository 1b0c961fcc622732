/-
  Events as the lines that say them: what is read of a line, what is written of an event. No condition.
-/
import Derived.Test.YtooaojegdhamjaaDoorEvL
import Derived.Test.YtooaojegdhamjaaDoorWalkG
import Derived.Test.YtooaojegdhamjaaDoorLawD
import Derived.Test.YtooaojegdhamjaaDoorLawB
namespace Go.Proofs.YtooaojegdhamjaaDoor
open Go.Lib

/-- An event. -/
structure Ev where
  k : Int
  i : Int
  n : Int
  u : ByteArray
  g : List ByteArray
  v : ByteArray
  r : ByteArray
  s : ByteArray
  o : Int
  t : ByteArray
theorem Ev.same {a b : Ev} (h1 : a.k = b.k) (h2 : a.i = b.i) (h3 : a.n = b.n) (h4 : a.u = b.u) (h5 : a.g = b.g) (h6 : a.v = b.v) (h7 : a.r = b.r) (h8 : a.s = b.s) (h9 : a.o = b.o) (h10 : a.t = b.t) : a = b := by
  cases a; cases b; simp_all
def tx0 : ByteArray := mk []
def ev0 : Ev := ⟨0, 0, 0, tx0, [], tx0, tx0, tx0, 0, tx0⟩
def wNew : ByteArray := mk [110, 101, 119]
def wDone : ByteArray := mk [100, 111, 110, 101]
def wDrop : ByteArray := mk [100, 114, 111, 112]
def wTick : ByteArray := mk [116, 105, 99, 107]
def wLoad : ByteArray := mk [108, 111, 97, 100]
def wDash : ByteArray := mk [45]

/-- The first error stays. -/
def mst (e : Int) (b : Bool) (x : Int) : Int := if e = 0 then (if b then 0 else x) else e
/-- The space that a word says, and whether it says one. -/
def spO (w : ByteArray) : ByteArray := if w = wDash then tx0 else w
def spK (w : ByteArray) : Bool := decide (w = wDash) || isWord w
/-- What the words behind 'new' say; and the error. -/
def newE (L : List ByteArray) : Ev := ⟨1, numOf (gt L 0) 0 999999999, 0, gt L 1, listOf (gt L 2), gt L 3, gt L 4, spO (gt L 5), numOf (gt L 6) 0 1048576, tx0⟩
def newX (L : List ByteArray) : Int := mst (mst (mst (mst (mst (mst (mst (mst 0 (decide (L.length = 7)) 2) (numIn (gt L 0) 0 999999999) 8) (isWord (gt L 1)) 4) (listOk (gt L 2)) 2) (isWord (gt L 3)) 4) (isWord (gt L 4)) 4) (spK (gt L 5)) 4) (numIn (gt L 6) 0 1048576) 8
def oneX (L : List ByteArray) (lo hi : Int) : Int := mst (mst 0 (decide (L.length = 1)) 2) (numIn (gt L 0) lo hi) 8
def idE (k : Int) (x : Int) : Ev := ⟨k, x, 0, tx0, [], tx0, tx0, tx0, 0, tx0⟩
def tickE (x : Int) : Ev := ⟨4, 0, x, tx0, [], tx0, tx0, tx0, 0, tx0⟩
def loadE (t : ByteArray) : Ev := ⟨5, 0, 0, tx0, [], tx0, tx0, tx0, 0, t⟩
/-- What a line says whose first word is f, behind which the words L stand. -/
def evE (f : ByteArray) (L : List ByteArray) : Ev := if f = wNew then newE L else if f = wDone then idE 2 (numOf (gt L 0) 0 999999999) else if f = wDrop then idE 3 (numOf (gt L 0) 0 999999999) else if f = wTick then tickE (numOf (gt L 0) 1 1000) else ev0
def evX (f : ByteArray) (L : List ByteArray) : Int := if f = wNew then newX L else if f = wDone then oneX L 0 999999999 else if f = wDrop then oneX L 0 999999999 else if f = wTick then oneX L 1 1000 else 2
/-- Beside an error nothing is told. -/
def gate (e : Ev) (x : Int) : Ev := if x = 0 then e else ev0
/-- What is read of a line. -/
def rdE (l : List UInt8) : Ev := if mk (fsL l) = wLoad then loadE (mk (mpL 59 10 (rsL l))) else gate (evE (mk (fsL l)) ((wordsL (rsL l)).map mk)) (evX (mk (fsL l)) ((wordsL (rsL l)).map mk))
def rdX (l : List UInt8) : Int := if mk (fsL l) = wLoad then 0 else evX (mk (fsL l)) ((wordsL (rsL l)).map mk)
/-- Words with one blank between two. -/
def jn (L : List ByteArray) : ByteArray := mk (join (L.map (·.data.toList)) [32])
def spW (s : ByteArray) : ByteArray := if s = tx0 then wDash else s
def rqE (e : Ev) : ByteArray := jn [e.u, joinB e.g, e.v, e.r, spW e.s, digB e.o]
def loadL (t : ByteArray) : ByteArray := if t = tx0 then wLoad else jn [wLoad, mk (mpL 10 59 t.data.toList)]
/-- The line of an event, whether it may be or not. -/
def lnE (e : Ev) : ByteArray := if e.k = 1 then jn [wNew, digB e.i, rqE e] else if e.k = 2 then jn [wDone, digB e.i] else if e.k = 3 then jn [wDrop, digB e.i] else if e.k = 4 then jn [wTick, digB e.n] else if e.k = 5 then loadL e.t else tx0
/-- Are two events the same? -/
def smE (a b : Ev) : Bool := decide (a.k = b.k ∧ a.i = b.i ∧ a.n = b.n ∧ a.u = b.u ∧ a.g = b.g ∧ a.v = b.v ∧ a.r = b.r ∧ a.s = b.s ∧ a.o = b.o ∧ a.t = b.t)
theorem smE_iff {a b : Ev} : smE a b = true ↔ a = b := by
  unfold smE
  rw [decide_eq_true_eq]
  constructor
  · rintro ⟨h1, h2, h3, h4, h5, h6, h7, h8, h9, h10⟩; exact Ev.same h1 h2 h3 h4 h5 h6 h7 h8 h9 h10
  · rintro rfl; exact ⟨rfl, rfl, rfl, rfl, rfl, rfl, rfl, rfl, rfl, rfl⟩
/-- May it be written? What is written. -/
def wrK (e : Ev) : Bool := decide (rdX (lnE e).data.toList = 0) && smE (rdE (lnE e).data.toList) e
def wrT (e : Ev) : ByteArray := if wrK e then lnE e else tx0
def wrX (e : Ev) : Int := if wrK e then 0 else 2

/-- The events that lines say. -/
def Zr (e : Ev) : Prop := e.u = tx0 ∧ e.g = [] ∧ e.v = tx0 ∧ e.r = tx0 ∧ e.s = tx0 ∧ e.o = 0
def Ok1 (e : Ev) : Prop := e.k = 1 ∧ e.n = 0 ∧ e.t = tx0 ∧ (0 ≤ e.i ∧ e.i ≤ 999999999) ∧ (0 ≤ e.o ∧ e.o ≤ 1048576) ∧ joinB e.g ≠ tx0 ∧ isWord e.u = true ∧ isWord e.v = true ∧ isWord e.r = true ∧ (e.s = tx0 ∨ isWord e.s = true)
def Ok2 (e : Ev) : Prop := (e.k = 2 ∨ e.k = 3) ∧ e.n = 0 ∧ e.t = tx0 ∧ (0 ≤ e.i ∧ e.i ≤ 999999999) ∧ Zr e
def Ok4 (e : Ev) : Prop := e.k = 4 ∧ e.i = 0 ∧ e.t = tx0 ∧ (1 ≤ e.n ∧ e.n ≤ 1000) ∧ Zr e
def Ok5 (e : Ev) : Prop := e.k = 5 ∧ e.i = 0 ∧ e.n = 0 ∧ (59 : UInt8) ∉ e.t.data.toList ∧ Zr e
def OkE (e : Ev) : Prop := Ok1 e ∨ Ok2 e ∨ Ok4 e ∨ Ok5 e

theorem mst_zero {e : Int} {b : Bool} {x : Int} (hx : x ≠ 0) (h : mst e b x = 0) : e = 0 ∧ b = true := by
  unfold mst at h
  by_cases he : e = 0
  · rw [if_pos he] at h
    cases b with
    | true => exact ⟨he, rfl⟩
    | false => exact absurd h hx
  · rw [if_neg he] at h; exact absurd h he
theorem mst_yes {e : Int} {b : Bool} {x : Int} (h : e = 0) (hb : b = true) : mst e b x = 0 := by unfold mst; rw [if_pos h, hb]; rfl
theorem newX_zero {L : List ByteArray} (h : newX L = 0) : L.length = 7 ∧ numIn (gt L 0) 0 999999999 = true ∧ isWord (gt L 1) = true ∧ listOk (gt L 2) = true ∧ isWord (gt L 3) = true ∧ isWord (gt L 4) = true ∧ spK (gt L 5) = true ∧ numIn (gt L 6) 0 1048576 = true := by
  unfold newX at h
  obtain ⟨h, a7⟩ := mst_zero (by decide) h
  obtain ⟨h, a6⟩ := mst_zero (by decide) h
  obtain ⟨h, a5⟩ := mst_zero (by decide) h
  obtain ⟨h, a4⟩ := mst_zero (by decide) h
  obtain ⟨h, a3⟩ := mst_zero (by decide) h
  obtain ⟨h, a2⟩ := mst_zero (by decide) h
  obtain ⟨h, a1⟩ := mst_zero (by decide) h
  obtain ⟨h, a0⟩ := mst_zero (by decide) h
  exact ⟨of_decide_eq_true a0, a1, a2, a3, a4, a5, a6, a7⟩
theorem oneX_zero {L : List ByteArray} {lo hi : Int} (h : oneX L lo hi = 0) : L.length = 1 ∧ numIn (gt L 0) lo hi = true := by
  unfold oneX at h
  obtain ⟨h, a1⟩ := mst_zero (by decide) h
  obtain ⟨h, a0⟩ := mst_zero (by decide) h
  exact ⟨of_decide_eq_true a0, a1⟩
theorem numIn_range {s : ByteArray} {lo hi : Int} (h : numIn s lo hi = true) : lo ≤ numOf s lo hi ∧ numOf s lo hi ≤ hi := by
  unfold numOf
  rw [h, if_pos rfl]
  unfold numIn at h
  simp only [Bool.and_eq_true, decide_eq_true_eq] at h
  exact ⟨h.2.1, h.2.2⟩
theorem listOk_ne {s : ByteArray} (h : listOk s = true) : s ≠ tx0 := fun e => by
  subst e
  revert h
  unfold listOk
  rw [if_neg (by decide), if_neg (by decide)]
  intro h
  have := (good_words (good_iff.1 h)) tx0 (by rw [show cutB 44 tx0 = [tx0] from rfl]; simp)
  rw [isWord_eq] at this
  revert this
  decide
/-- What is read is an event that may be. -/
theorem ok_read (l : List UInt8) (h : rdX l = 0) : OkE (rdE l) := by
  unfold rdX at h
  unfold rdE
  by_cases hl : mk (fsL l) = wLoad
  · rw [if_pos hl]
    exact .inr (.inr (.inr ⟨rfl, rfl, rfl, by show (59 : UInt8) ∉ (mk _).data.toList; rw [mk_list]; exact mpL_none (by decide) _, rfl, rfl, rfl, rfl, rfl, rfl⟩))
  rw [if_neg hl] at h ⊢
  unfold gate
  rw [h, if_pos rfl]
  unfold evX at h
  unfold evE
  generalize mk (fsL l) = f at *
  generalize (wordsL (rsL l)).map mk = L at *
  by_cases h1 : f = wNew
  · rw [if_pos h1] at h ⊢
    obtain ⟨_, a1, a2, a3, a4, a5, a6, a7⟩ := newX_zero h
    refine .inl ⟨rfl, rfl, rfl, numIn_range a1, numIn_range a7, ?_, a2, a4, a5, ?_⟩
    · show joinB (listOf (gt L 2)) ≠ tx0
      rw [join_list _ a3]
      exact listOk_ne a3
    · show spO (gt L 5) = tx0 ∨ isWord (spO (gt L 5)) = true
      unfold spO
      by_cases hd : gt L 5 = wDash
      · rw [if_pos hd]; exact .inl rfl
      · rw [if_neg hd]
        unfold spK at a6
        rw [decide_eq_false hd, Bool.false_or] at a6
        exact .inr a6
  rw [if_neg h1] at h ⊢
  by_cases h2 : f = wDone
  · rw [if_pos h2] at h ⊢
    obtain ⟨_, a⟩ := oneX_zero h
    exact .inr (.inl ⟨.inl rfl, rfl, rfl, numIn_range a, rfl, rfl, rfl, rfl, rfl, rfl⟩)
  rw [if_neg h2] at h ⊢
  by_cases h3 : f = wDrop
  · rw [if_pos h3] at h ⊢
    obtain ⟨_, a⟩ := oneX_zero h
    exact .inr (.inl ⟨.inr rfl, rfl, rfl, numIn_range a, rfl, rfl, rfl, rfl, rfl, rfl⟩)
  rw [if_neg h3] at h ⊢
  by_cases h4 : f = wTick
  · rw [if_pos h4] at h ⊢
    obtain ⟨_, a⟩ := oneX_zero h
    exact .inr (.inr (.inl ⟨rfl, rfl, rfl, numIn_range a, rfl, rfl, rfl, rfl, rfl, rfl⟩))
  rw [if_neg h4] at h
  exact absurd h (by decide)

/-- A text of one word: not empty, and no blank in it. -/
def Cl (x : ByteArray) : Prop := (32 : UInt8) ∉ x.data.toList ∧ x.data.toList ≠ []
theorem word_cl {x : ByteArray} (h : isWord x = true) : Cl x := ⟨(word_clean h).2.2.1, (word_clean h).2.1⟩
theorem dig_cl (n : Int) : Cl (digB n) := by
  unfold Cl digB
  rw [mk_list]
  refine ⟨fun h => ?_, fun h => ?_⟩
  · have := dec_digits _ _ h
    exact absurd this.1 (by decide)
  · have := dec_pos (max n 0).toNat
    rw [h] at this
    exact absurd this (by decide)
theorem tail_clean (c : UInt8) (hc : (32 : UInt8) ≠ c) : ∀ r : List (List UInt8), (∀ y ∈ r, (32 : UInt8) ∉ y) → (32 : UInt8) ∉ joinTail [c] r
  | [], _ => by simp [joinTail]
  | y :: r, h => by
    rw [tail_cons]
    intro hm
    rcases List.mem_cons.1 hm with e | e
    · exact hc e
    · rcases List.mem_append.1 e with e | e
      · exact h y (List.mem_cons_self ..) e
      · exact tail_clean c hc r (fun z hz => h z (List.mem_cons_of_mem _ hz)) e
theorem join_cl {L : List ByteArray} (h : joinB L ≠ tx0) : Cl (joinB L) := by
  refine ⟨?_, fun e => h (by unfold tx0; exact list_inj (by rw [e, mk_list]))⟩
  unfold joinB at h ⊢
  by_cases h0 : L = []
  · rw [if_pos h0]; decide
  rw [if_neg h0] at h ⊢
  by_cases h1 : L = [mk [42]]
  · rw [if_pos h1]; decide
  rw [if_neg h1] at h ⊢
  cases hg : good L with
  | false => rw [hg] at h; exact absurd rfl h
  | true =>
    rw [if_pos rfl, mk_list]
    have hw := good_words (good_iff.1 hg)
    cases L with
    | nil => exact absurd rfl h0
    | cons x r =>
      rw [List.map_cons, join_cons]
      intro hm
      rcases List.mem_append.1 hm with e | e
      · exact (word_cl (hw x (List.mem_cons_self ..))).1 e
      · exact tail_clean 44 (by decide) _ (fun y hy => by
          obtain ⟨z, hz, rfl⟩ := List.mem_map.1 hy
          exact (word_cl (hw z (List.mem_cons_of_mem _ hz))).1) e
theorem spW_cl {s : ByteArray} (h : s = tx0 ∨ isWord s = true) : Cl (spW s) := by
  unfold spW
  by_cases hs : s = tx0
  · rw [if_pos hs]; unfold Cl wDash; rw [mk_list]; exact ⟨by decide, by simp⟩
  · rw [if_neg hs]; exact word_cl (h.resolve_left hs)

theorem jn_cons (x y : ByteArray) (r : List ByteArray) : (jn (x :: y :: r)).data.toList = x.data.toList ++ 32 :: (jn (y :: r)).data.toList := by
  unfold jn
  rw [mk_list, mk_list, List.map_cons, List.map_cons, join_cons, join_cons, tail_cons]
theorem jn_one (x : ByteArray) : jn [x] = x := by
  unfold jn
  rw [List.map_cons, List.map_nil, join_one, mk_of]
/-- Words in words. -/
theorem jn_in (x y : ByteArray) (r : List ByteArray) : jn [x, y, jn r] = jn (x :: y :: r) ∨ r = [] := by
  cases r with
  | nil => exact .inr rfl
  | cons z r =>
    refine .inl (list_inj ?_)
    rw [jn_cons, jn_cons, jn_one, jn_cons, jn_cons]
theorem mk_map (L : List ByteArray) : (L.map (·.data.toList)).map mk = L := by
  rw [List.map_map]
  have : (mk ∘ fun x : ByteArray => x.data.toList) = id := by funext x; exact mk_of x
  rw [this, List.map_id]
/-- What stands behind the first word is read as it was written. -/
theorem jn_words {x : ByteArray} {r : List ByteArray} (h : ∀ y ∈ x :: r, Cl y) : (wordsL (jn (x :: r)).data.toList).map mk = x :: r := by
  unfold jn
  rw [mk_list, List.map_cons, join_cons, words_join _ _ (fun y hy => by
    rcases List.mem_cons.1 hy with rfl | hy
    · exact h x (List.mem_cons_self ..)
    · obtain ⟨z, hz, rfl⟩ := List.mem_map.1 hy
      exact h z (List.mem_cons_of_mem _ hz)), List.map_cons, mk_of, mk_map]
theorem jn_first {x y : ByteArray} {r : List ByteArray} (hx : Cl x) (h : ∀ z ∈ y :: r, Cl z) : mk (fsL (jn (x :: y :: r)).data.toList) = x ∧ (wordsL (rsL (jn (x :: y :: r)).data.toList)).map mk = y :: r := by
  rw [jn_cons]
  obtain ⟨a, b⟩ := first_at (r := (jn (y :: r)).data.toList) hx.1 hx.2
  rw [a, b]
  exact ⟨mk_of x, jn_words h⟩
theorem wNew_cl : Cl wNew := by unfold Cl wNew; rw [mk_list]; exact ⟨by decide, by simp⟩
theorem wDone_cl : Cl wDone := by unfold Cl wDone; rw [mk_list]; exact ⟨by decide, by simp⟩
theorem wDrop_cl : Cl wDrop := by unfold Cl wDrop; rw [mk_list]; exact ⟨by decide, by simp⟩
theorem wTick_cl : Cl wTick := by unfold Cl wTick; rw [mk_list]; exact ⟨by decide, by simp⟩
theorem wLoad_cl : Cl wLoad := by unfold Cl wLoad; rw [mk_list]; exact ⟨by decide, by simp⟩
theorem num_back {n lo hi : Int} (h0 : 0 ≤ lo) (h9 : hi ≤ 999999999) (h1 : lo ≤ n) (h2 : n ≤ hi) : numIn (digB n) lo hi = true ∧ numOf (digB n) lo hi = n := by
  have e : ((n.toNat : Nat) : Int) = n := by omega
  have := num_digits n.toNat (by omega) lo hi
  rw [e, decide_eq_true h1, decide_eq_true h2] at this
  exact ⟨this.1, this.2⟩
theorem sp_back {s : ByteArray} (h : s = tx0 ∨ isWord s = true) : spO (spW s) = s ∧ spK (spW s) = true := by
  unfold spO spK spW
  by_cases hs : s = tx0
  · rw [if_pos hs, if_pos rfl, hs]; exact ⟨rfl, by simp⟩
  · rw [if_neg hs]
    have hw := h.resolve_left hs
    have hd : s ≠ wDash := fun e => by rw [e] at hw; unfold wDash at hw; rw [dash_no] at hw; cases hw
    rw [if_neg hd, hw, Bool.or_true]
    exact ⟨rfl, rfl⟩
theorem ev_done (L : List ByteArray) : evX wDone L = oneX L 0 999999999 ∧ evE wDone L = idE 2 (numOf (gt L 0) 0 999999999) := by
  unfold evX evE
  rw [if_neg (by decide), if_pos rfl, if_neg (by decide), if_pos rfl]
  exact ⟨rfl, rfl⟩
theorem ev_drop (L : List ByteArray) : evX wDrop L = oneX L 0 999999999 ∧ evE wDrop L = idE 3 (numOf (gt L 0) 0 999999999) := by
  unfold evX evE
  rw [if_neg (by decide), if_neg (by decide), if_pos rfl, if_neg (by decide), if_neg (by decide), if_pos rfl]
  exact ⟨rfl, rfl⟩
theorem ev_tick (L : List ByteArray) : evX wTick L = oneX L 1 1000 ∧ evE wTick L = tickE (numOf (gt L 0) 1 1000) := by
  unfold evX evE
  rw [if_neg (by decide), if_neg (by decide), if_neg (by decide), if_pos rfl, if_neg (by decide), if_neg (by decide), if_neg (by decide), if_pos rfl]
  exact ⟨rfl, rfl⟩
/-- An event that may be is read as it was written. -/
theorem back_all {e : Ev} (h : OkE e) : rdX (lnE e).data.toList = 0 ∧ rdE (lnE e).data.toList = e := by
  rcases h with ⟨hk, hn, ht, hi, ho, hg, hu, hv, hr, hs⟩ | ⟨hk, hn, ht, hi, z1, z2, z3, z4, z5, z6⟩ | ⟨hk, hi, ht, hn, z1, z2, z3, z4, z5, z6⟩ | ⟨hk, hi, hn, ht, z1, z2, z3, z4, z5, z6⟩
  · have el : lnE e = jn [wNew, digB e.i, e.u, joinB e.g, e.v, e.r, spW e.s, digB e.o] := by
      unfold lnE rqE
      rw [if_pos hk]
      exact (jn_in wNew (digB e.i) _).resolve_right (by simp)
    have hc : ∀ z ∈ [digB e.i, e.u, joinB e.g, e.v, e.r, spW e.s, digB e.o], Cl z := by
      intro z hz
      simp only [List.mem_cons, List.not_mem_nil, or_false] at hz
      rcases hz with rfl | rfl | rfl | rfl | rfl | rfl | rfl
      · exact dig_cl _
      · exact word_cl hu
      · exact join_cl hg
      · exact word_cl hv
      · exact word_cl hr
      · exact spW_cl hs
      · exact dig_cl _
    obtain ⟨a, b⟩ := jn_first wNew_cl hc
    obtain ⟨n1, n2⟩ := num_back (by decide) (by decide) hi.1 hi.2
    obtain ⟨o1, o2⟩ := num_back (by decide) (by decide) ho.1 ho.2
    obtain ⟨l1, l2⟩ := list_join e.g hg
    obtain ⟨s1, s2⟩ := sp_back hs
    have x0 : newX [digB e.i, e.u, joinB e.g, e.v, e.r, spW e.s, digB e.o] = 0 := mst_yes (mst_yes (mst_yes (mst_yes (mst_yes (mst_yes (mst_yes (mst_yes rfl rfl) n1) hu) l1) hv) hr) s2) o1
    unfold rdX rdE
    rw [el, a, b, if_neg (by decide), if_neg (by decide)]
    unfold evX evE gate
    rw [if_pos rfl, if_pos rfl, x0, if_pos rfl]
    exact ⟨rfl, Ev.same hk.symm n2 hn.symm rfl l2 rfl rfl s1 o2 ht.symm⟩
  · obtain ⟨n1, n2⟩ := num_back (lo := 0) (hi := 999999999) (by decide) (by decide) hi.1 hi.2
    have x0 : oneX [digB e.i] 0 999999999 = 0 := mst_yes (mst_yes rfl rfl) n1
    have hc : ∀ z ∈ [digB e.i], Cl z := by intro z hz; rw [List.mem_singleton] at hz; rw [hz]; exact dig_cl _
    rcases hk with hk | hk
    · have el : lnE e = jn [wDone, digB e.i] := by unfold lnE; rw [if_neg (by omega), if_pos hk]
      obtain ⟨a, b⟩ := jn_first wDone_cl hc
      unfold rdX rdE
      rw [el, a, b, if_neg (by decide), if_neg (by decide)]
      unfold gate
      rw [(ev_done _).1, (ev_done _).2, x0, if_pos rfl]
      exact ⟨rfl, Ev.same hk.symm n2 hn.symm z1.symm z2.symm z3.symm z4.symm z5.symm z6.symm ht.symm⟩
    · have el : lnE e = jn [wDrop, digB e.i] := by unfold lnE; rw [if_neg (by omega), if_neg (by omega), if_pos hk]
      obtain ⟨a, b⟩ := jn_first wDrop_cl hc
      unfold rdX rdE
      rw [el, a, b, if_neg (by decide), if_neg (by decide)]
      unfold gate
      rw [(ev_drop _).1, (ev_drop _).2, x0, if_pos rfl]
      exact ⟨rfl, Ev.same hk.symm n2 hn.symm z1.symm z2.symm z3.symm z4.symm z5.symm z6.symm ht.symm⟩
  · obtain ⟨n1, n2⟩ := num_back (lo := 1) (hi := 1000) (by decide) (by decide) hn.1 hn.2
    have x0 : oneX [digB e.n] 1 1000 = 0 := mst_yes (mst_yes rfl rfl) n1
    have hc : ∀ z ∈ [digB e.n], Cl z := by intro z hz; rw [List.mem_singleton] at hz; rw [hz]; exact dig_cl _
    have el : lnE e = jn [wTick, digB e.n] := by unfold lnE; rw [if_neg (by omega), if_neg (by omega), if_neg (by omega), if_pos hk]
    obtain ⟨a, b⟩ := jn_first wTick_cl hc
    unfold rdX rdE
    rw [el, a, b, if_neg (by decide), if_neg (by decide)]
    unfold gate
    rw [(ev_tick _).1, (ev_tick _).2, x0, if_pos rfl]
    exact ⟨rfl, Ev.same hk.symm hi.symm n2 z1.symm z2.symm z3.symm z4.symm z5.symm z6.symm ht.symm⟩
  · have el : lnE e = loadL e.t := by unfold lnE; rw [if_neg (by omega), if_neg (by omega), if_neg (by omega), if_neg (by omega), if_pos hk]
    unfold rdX rdE
    rw [el]
    by_cases h0 : e.t = tx0
    · have e2 : loadL e.t = wLoad := by unfold loadL; rw [if_pos h0]
      obtain ⟨a, b⟩ := first_alone wLoad_cl.1 wLoad_cl.2
      rw [e2, a, b, mk_of, if_pos rfl, if_pos rfl]
      exact ⟨rfl, Ev.same hk.symm hi.symm hn.symm z1.symm z2.symm z3.symm z4.symm z5.symm z6.symm h0.symm⟩
    · have e2 : (loadL e.t).data.toList = wLoad.data.toList ++ 32 :: mpL 10 59 e.t.data.toList := by unfold loadL; rw [if_neg h0, jn_cons, jn_one, mk_list]
      obtain ⟨a, b⟩ := first_at (r := mpL 10 59 e.t.data.toList) wLoad_cl.1 wLoad_cl.2
      rw [e2, a, b, mk_of, if_pos rfl, if_pos rfl, mpL_back _ ht, mk_of]
      exact ⟨rfl, Ev.same hk.symm hi.symm hn.symm z1.symm z2.symm z3.symm z4.symm z5.symm z6.symm rfl⟩
theorem wr_yes {e : Ev} (h : OkE e) : wrK e = true ∧ wrT e = lnE e ∧ wrX e = 0 := by
  obtain ⟨a, b⟩ := back_all h
  have hk : wrK e = true := by
    unfold wrK
    rw [a, b, smE_iff.2 rfl]
    rfl
  unfold wrT wrX
  rw [hk, if_pos rfl, if_pos rfl]
  exact ⟨rfl, rfl, rfl⟩
theorem wr_ok {e : Ev} (h : wrK e = true) : OkE e := by
  unfold wrK at h
  rw [Bool.and_eq_true, decide_eq_true_eq, smE_iff] at h
  have := ok_read _ h.1
  rwa [h.2] at this
theorem wr_no {e : Ev} (h : ¬ OkE e) : wrK e = false ∧ wrT e = tx0 ∧ wrX e = 2 := by
  have hk : wrK e = false := by
    cases hb : wrK e with
    | false => rfl
    | true => exact absurd (wr_ok hb) h
  unfold wrT wrX
  rw [hk, if_neg (by decide), if_neg (by decide)]
  exact ⟨rfl, rfl, rfl⟩
end Go.Proofs.YtooaojegdhamjaaDoor
