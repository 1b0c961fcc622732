/-
  What a reader's calls for a space, a list and a request answer. Condition: the words have at most 2^31 bytes.
-/
import Derived.Test.YtooaojegdhamjaaDoorEvC
namespace Go.Proofs.YtooaojegdhamjaaDoor
open Go.RowKit Go.Lib

theorem drop_one (L : List ByteArray) (n : Nat) : (L.drop n).drop 1 = L.drop (n + 1) := by rw [List.drop_drop]
theorem gt_at (L : List ByteArray) (n : Nat) : gt (L.drop n) 0 = gt L n := gt_drop L n 0

theorem space_rd (w : World) (p : Nat) (L : List ByteArray) (e : Int) (h : RdS w p L e) :
    Calls Tryd.prog 54 #[.pointer (some ⟨p, 0, none⟩)] w fun q w' => q = .returned (.string (spO (gt L 0))) ∧ RdS w' p (L.drop 1) (mst e (spK (gt L 0)) 4) ∧ Kept (At p) w w' := by
  have W := word_next w p L e h
  have Nm := name_rd w p L e h
  obtain ⟨a, hb, hr, -⟩ := h.ex
  have r0 := hb.cellv 0 rfl
  clear hb
  have hm := h.ln
  clear h
  by_cases hd : gt L 0 = wDash
  · have x1 : spO (gt L 0) = ⟨#[]⟩ := by unfold spO; rw [if_pos hd]; rfl
    have x2 : mst e (spK (gt L 0)) 4 = e := by unfold spK mst; rw [decide_eq_true hd]; by_cases he : e = 0 <;> simp [he]
    rw [x1, x2]
    cases L with
    | nil => exact absurd hd (by decide)
    | cons x r =>
      obtain ⟨b, off, rfl, hbl, hc⟩ := hr (by simp)
      have c0 := hc 0 (by simp)
      rw [Nat.add_zero, hd] at c0
      have c0' : w.cell? ⟨b, off, none⟩ = some (.string ⟨#[45]⟩) := c0
      clear c0 hc x1 x2 Nm hr hd
      have hl : (x :: r).length = r.length + 1 := rfl
      rw [hl] at r0 hm
      clear hl
      generalize r.length = n at *
      generalize gt (x :: r) 0 = y at *
      generalize (x :: r).drop 1 = M at *
      go_enter Tryd.func54, Tryd.ntmps54
      go_wp2_with (first | (go_at_call 56; refine W.mono ?_; rintro q w1 ⟨rfl, h1, k1⟩))
      go_ret
      exact ⟨rfl, h1, k1⟩
  · have x1 : spO (gt L 0) = gt L 0 := by unfold spO; rw [if_neg hd]
    have x2 : spK (gt L 0) = isWord (gt L 0) := by unfold spK; rw [decide_eq_false hd, Bool.false_or]
    rw [x1, x2]
    clear W x1 x2
    cases L with
    | nil =>
      rw [List.length_nil] at r0
      clear hr hd
      generalize gt [] 0 = y at *
      generalize ([] : List ByteArray).drop 1 = M at *
      go_enter Tryd.func54, Tryd.ntmps54
      go_wp2_with (first | (go_at_call 52; refine Nm.mono ?_; rintro q w1 ⟨rfl, h1, k1⟩))
      go_ret
      exact ⟨rfl, h1, k1⟩
    | cons x r =>
      obtain ⟨b, off, rfl, hbl, hc⟩ := hr (by simp)
      have c0 := hc 0 (by simp)
      rw [Nat.add_zero] at c0
      have ne : ((gt (x :: r) 0).toList == [45]) = false := by have := str_ne hd; unfold wDash at this; rw [ByteArray.toList_eq (mk [45]), mk_list] at this; exact this
      clear hc hr hd
      have hl : (x :: r).length = r.length + 1 := rfl
      rw [hl] at r0 hm
      clear hl
      generalize r.length = n at *
      generalize gt (x :: r) 0 = y at *
      generalize (x :: r).drop 1 = M at *
      go_enter Tryd.func54, Tryd.ntmps54
      go_wp2_with (first | (go_at_call 52; refine Nm.mono ?_; rintro q w1 ⟨rfl, h1, k1⟩))
      go_ret
      exact ⟨rfl, h1, k1⟩

theorem list_rd (w : World) (p : Nat) (L : List ByteArray) (e : Int) (h : RdS w p L e) :
    Calls Tryd.prog 53 #[.pointer (some ⟨p, 0, none⟩)] w fun q w' => ∃ a c, q = .returned (.slice a (listOf (gt L 0)).length c) ∧ (RowL w' a (listOf (gt L 0)) ∧ (listOf (gt L 0)).length ≤ c ∧ ∀ b off, a = some ⟨b, off, none⟩ → w.heap.size ≤ b) ∧ RdS w' p (L.drop 1) (mst e (listOk (gt L 0)) 2) ∧ Kept (At p) w w' := by
  have W := word_next w p L e h
  have HN := Hd.mk (fun v => list_ok (gt L 0) v (h.sh 0))
  have HP : Hd (p < w.heap.size) := ⟨h.lt⟩
  clear h
  generalize gt L 0 = x at *
  generalize L.drop 1 = M at *
  generalize hG : listOf x = G at *
  generalize listOk x = b at *
  clear hG
  go_enter Tryd.func53, Tryd.ntmps53
  go_wp2_with fail
  go_at_call 56
  refine W.mono ?_
  rintro q w1 ⟨rfl, h1, k1⟩
  have H1 := Hd.mk h1
  have K1 := Hd.mk k1
  clear h1 k1 W
  go_wp2_with fail
  go_at_call 70
  refine (HN.out w1).mono ?_
  rintro q w2 ⟨a, c, rfl, hr, hc, hb, hf⟩
  have HR := Hd.mk hr
  have HC := Hd.mk hc
  have HF := Hd.mk hf
  have HB := Hd.mk hb
  have H2 := Hd.mk (H1.out.below hb)
  clear hr hc hf hb
  generalize hn : G.length = n at *
  have HM := Hd.mk hn
  clear hn
  go_wp2_with fail
  go_at_call 38
  refine (H2.out.must 2 _).mono ?_
  rintro q w3 ⟨rfl, h3, k3⟩
  have H3 := Hd.mk h3
  have K3 := Hd.mk k3
  clear h3 k3
  go_wp2_with fail
  go_ret
  refine ⟨a, c, by rw [HM.out]; rfl, ⟨HR.out.kept K3.out fun b' off e h => ?_, by rw [HM.out]; exact HC.out, fun b' off e => Nat.le_trans K1.out.size (HF.out b' off e)⟩, H3.out, (K1.out.trans (Kept.of_below HB.out _)).trans K3.out⟩
  have := HF.out b' off e
  have := K1.out.size
  have := HP.out
  have h' : b' = p := h
  omega
end Go.Proofs.YtooaojegdhamjaaDoor
