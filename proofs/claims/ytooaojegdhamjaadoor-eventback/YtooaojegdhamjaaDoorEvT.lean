/-
  What is read of a line depends on its words alone, but for what is loaded; and what is read is written no longer than by one byte. No condition.
-/
import Derived.Test.YtooaojegdhamjaaDoorEvM
namespace Go.Proofs.YtooaojegdhamjaaDoor
open Go.Lib

theorem first_of_words {l m : List UInt8} (h : wordsL l = wordsL m) : fsL l = fsL m ∧ (fsL l ≠ [] → wordsL (rsL l) = wordsL (rsL m)) := by
  rcases first_cases l with ⟨a1, a2, _, a4⟩ | ⟨a1, _, a3, _⟩ <;> rcases first_cases m with ⟨b1, b2, _, b4⟩ | ⟨b1, _, b3, _⟩
  · rw [a1, b1]; exact ⟨rfl, fun h => absurd rfl h⟩
  · rw [a4, b3] at h; cases h
  · rw [a3, b4] at h; cases h
  · rw [a3, b3] at h
    obtain ⟨e1, e2⟩ := List.cons.inj h
    exact ⟨e1, fun _ => e2⟩
theorem rd_words {l m : List UInt8} (h : wordsL l = wordsL m) (hl : mk (fsL l) ≠ wLoad) : rdE l = rdE m ∧ rdX l = rdX m := by
  obtain ⟨e1, e2⟩ := first_of_words h
  unfold rdE rdX
  rw [← e1, if_neg hl, if_neg hl, if_neg hl, if_neg hl]
  by_cases h0 : fsL l = []
  · have n1 : mk (fsL l) ≠ wNew := by rw [h0]; decide
    have n2 : mk (fsL l) ≠ wDone := by rw [h0]; decide
    have n3 : mk (fsL l) ≠ wDrop := by rw [h0]; decide
    have n4 : mk (fsL l) ≠ wTick := by rw [h0]; decide
    unfold evE evX
    rw [if_neg n1, if_neg n2, if_neg n3, if_neg n4, if_neg n1, if_neg n2, if_neg n3, if_neg n4, if_neg n1, if_neg n2, if_neg n3, if_neg n4, if_neg n1, if_neg n2, if_neg n3, if_neg n4]
    exact ⟨rfl, rfl⟩
  · rw [e2 h0]
    exact ⟨rfl, rfl⟩
theorem dec_of : ∀ l : List UInt8, IsD l → l ≠ [] → (1 < l.length → l.head? ≠ some 48) → decDigits (valL l) = l := by
  apply snoc_ind (motive := fun l => IsD l → l ≠ [] → (1 < l.length → l.head? ≠ some 48) → decDigits (valL l) = l)
  · intro _ h; exact absurd rfl h
  · intro l b ih hd _ hh
    have hb := hd b (by simp)
    rw [valL_snoc]
    have hbb : UInt8.ofNat (48 + (b.toNat - 48)) = b := by
      rw [show 48 + (b.toNat - 48) = b.toNat by omega, UInt8.ofNat_toNat]
    cases hl : l with
    | nil =>
      show decDigits (0 * 10 + (b.toNat - 48)) = [b]
      rw [dec_small (by omega), Nat.zero_mul, Nat.zero_add, hbb]
    | cons x t =>
      have hd' : IsD l := fun y hy => hd y (List.mem_append_left _ hy)
      have hne : l ≠ [] := by rw [hl]; simp
      have hh' : l.head? ≠ some 48 := by
        have := hh (by rw [hl]; simp)
        rw [hl] at this ⊢
        simpa using this
      have hp := val_pos l hd' hne hh'
      have hih := ih hd' hne (fun _ => hh')
      rw [← hl, dec_big (by omega), show (valL l * 10 + (b.toNat - 48)) / 10 = valL l by omega, show (valL l * 10 + (b.toNat - 48)) % 10 = b.toNat - 48 by omega, hih, hbb]

theorem num_text {s : ByteArray} {lo hi : Int} (h : numIn s lo hi = true) : digB (numOf s lo hi) = s := by
  have e : numOf s lo hi = (valL s.data.toList : Int) := by unfold numOf; rw [h, if_pos rfl]
  unfold numIn at h
  rw [Bool.and_eq_true] at h
  obtain ⟨h9, hd, h1, h0⟩ := isNum_parts h.1
  have hD : IsD s.data.toList := fun b hb => by
    unfold allB at hd
    have := List.all_eq_true.1 hd b hb
    unfold isDigit at this
    simp at this
    omega
  rw [e]
  have e2 : digB (valL s.data.toList : Nat) = mk (decDigits (valL s.data.toList)) := by unfold digB; congr 2; omega
  have hne : s.data.toList ≠ [] := fun h => by rw [← size_list, h] at h1; simp at h1
  rw [e2, dec_of s.data.toList hD hne (fun hl hh => by
    rw [size_list] at hl
    have := h0 hl
    have e2 := byte_at s 0 (by omega)
    rw [List.head?_eq_getElem?] at hh
    rw [hh] at e2
    rw [← Option.some.inj e2] at this
    exact absurd this (by decide)), mk_of]
theorem sp_text {s : ByteArray} (h : spK s = true) : spW (spO s) = s := by
  unfold spO
  by_cases hd : s = wDash
  · rw [if_pos hd, hd]; unfold spW; rw [if_pos rfl]
  · rw [if_neg hd]
    unfold spK at h
    rw [decide_eq_false hd, Bool.false_or] at h
    unfold spW
    rw [if_neg]
    rintro rfl
    rw [isWord_eq] at h
    revert h
    decide
theorem one_of {L : List ByteArray} (h : L.length = 1) : L = [gt L 0] := by
  match L, h with
  | [x], _ => rfl
theorem seven_of {L : List ByteArray} (h : L.length = 7) : L = [gt L 0, gt L 1, gt L 2, gt L 3, gt L 4, gt L 5, gt L 6] := by
  match L, h with
  | [x0, x1, x2, x3, x4, x5, x6], _ => rfl
theorem ln_id2 (x : Int) : lnE (idE 2 x) = jn [wDone, digB x] := rfl
theorem ln_id3 (x : Int) : lnE (idE 3 x) = jn [wDrop, digB x] := rfl
theorem ln_tick (x : Int) : lnE (tickE x) = jn [wTick, digB x] := rfl
theorem ln_load (t : ByteArray) : lnE (loadE t) = loadL t := rfl
/-- What is read of words is written as these words. -/
theorem ln_words {f : ByteArray} {L : List ByteArray} (h : evX f L = 0) : lnE (evE f L) = jn (f :: L) := by
  unfold evX at h
  by_cases h1 : f = wNew
  · rw [if_pos h1] at h
    obtain ⟨a0, a1, a2, a3, a4, a5, a6, a7⟩ := newX_zero h
    have e1 : evE f L = newE L := by unfold evE; rw [if_pos h1]
    have e2 : lnE (newE L) = jn [wNew, digB (newE L).i, rqE (newE L)] := by unfold lnE; rw [if_pos (show (newE L).k = 1 from rfl)]
    have e3 : rqE (newE L) = jn [gt L 1, gt L 2, gt L 3, gt L 4, gt L 5, gt L 6] := by
      unfold rqE
      rw [show (newE L).g = listOf (gt L 2) from rfl, join_list _ a3, show (newE L).s = spO (gt L 5) from rfl, sp_text a6, show (newE L).o = numOf (gt L 6) 0 1048576 from rfl, num_text a7]
      rfl
    rw [e1, e2, e3, show (newE L).i = numOf (gt L 0) 0 999999999 from rfl, num_text a1, (jn_in wNew (gt L 0) _).resolve_right (by simp), h1]
    rw [← seven_of a0]
  rw [if_neg h1] at h
  by_cases h2 : f = wDone
  · rw [if_pos h2] at h
    obtain ⟨a0, a1⟩ := oneX_zero h
    rw [h2, (ev_done L).2]
    rw [ln_id2, num_text a1, ← one_of a0]
  rw [if_neg h2] at h
  by_cases h3 : f = wDrop
  · rw [if_pos h3] at h
    obtain ⟨a0, a1⟩ := oneX_zero h
    rw [h3, (ev_drop L).2]
    rw [ln_id3, num_text a1, ← one_of a0]
  rw [if_neg h3] at h
  by_cases h4 : f = wTick
  · rw [if_pos h4] at h
    obtain ⟨a0, a1⟩ := oneX_zero h
    rw [h4, (ev_tick L).2]
    rw [ln_tick, num_text a1, ← one_of a0]
  rw [if_neg h4] at h
  exact absurd h (by decide)
theorem ln_len (l : List UInt8) (h : rdX l = 0) : (lnE (rdE l)).size ≤ l.length + 1 := by
  unfold rdX at h
  unfold rdE
  have hp := part_len l
  by_cases hl : mk (fsL l) = wLoad
  · rw [if_pos hl]
    have h4 : (fsL l).length = 4 := by have : fsL l = [108, 111, 97, 100] := mk_inj hl; rw [this]; rfl
    rw [ln_load]
    unfold loadL
    by_cases h0 : mk (mpL 59 10 (rsL l)) = tx0
    · rw [if_pos h0]
      have : wLoad.size = 4 := rfl
      omega
    · rw [if_neg h0, ← size_list, jn_cons, jn_one, mk_list, mk_list, List.length_append, List.length_cons, mpL_len, mpL_len, size_list]
      have : wLoad.size = 4 := rfl
      omega
  · rw [if_neg hl] at h ⊢
    unfold gate
    rw [h, if_pos rfl, ln_words h]
    have hne : fsL l ≠ [] := fun e => by
      unfold evX at h
      rw [e, if_neg (by decide), if_neg (by decide), if_neg (by decide), if_neg (by decide)] at h
      exact absurd h (by decide)
    rcases first_cases l with ⟨a1, _⟩ | ⟨_, _, a3, _⟩
    · exact absurd a1 hne
    · have e : (jn (mk (fsL l) :: (wordsL (rsL l)).map mk)).data.toList = join (wordsL l) [32] := by
        unfold jn
        rw [mk_list, a3, List.map_cons, mk_list, List.map_map]
        have : ((fun x : ByteArray => x.data.toList) ∘ mk) = id := by funext x; exact mk_list x
        rw [this, List.map_id]
      rw [← size_list, e]
      have := words_len l.length l (Nat.le_refl _)
      omega
end Go.Proofs.YtooaojegdhamjaaDoor
