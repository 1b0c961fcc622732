/-
  A configuration with one more rule, in memory; what the reader's method 'list' of the program does.
-/
import Derived.Test.YtaodckojinbdfaaDoorPush
import Derived.Test.YtaodckojinbdfaaDoorWalkY
namespace Go.Proofs.YtaodckojinbdfaaDoor
open Go.RowKit

theorem list_rd {B R A : Nat} {ws : List ByteArray} {e : Int} (w : World) (H : Rd B w R A ws e) :
    Calls Tryd.prog 56 #[.pointer (some ⟨R, 0, none⟩)] w fun r w' => ∃ v, r = .returned v ∧ Lst B w' v (listOf (gt ws 0)) ∧ Rd B w' R A ws.tail (mu e (ifE (listOk (gt ws 0)) 2)) ∧ Kept (fun k => k = R) w w' := by
  have W := word_rd w H
  have N := fun w => list_y (gt ws 0) w (by have := H.sh 0; omega)
  have HB : B ≤ w.heap.size := Nat.le_trans H.le (Nat.le_of_lt H.lt)
  have HL := list_len (gt ws 0)
  clear H
  generalize gt ws 0 = x at *
  generalize listOf x = L at *
  generalize listOk x = b at *
  generalize ws.tail = t at *
  obtain ⟨n, hn⟩ : ∃ n, n = L.length := ⟨_, rfl⟩
  rw [← hn] at N HL
  have HN : Hd (n = L.length) := ⟨hn⟩
  clear hn
  go_enter Tryd.func56, Tryd.ntmps56
  go_wp2_with (first
    | (go_at_call 30; refine W.mono ?_; rintro r w1 ⟨rfl, h1, k1⟩; have HH : Hd (Rd B w1 R A t e ∧ Kept (fun k => k = R) w w1) := ⟨h1, k1⟩; clear h1 k1)
    | (go_at_call 67; refine (N _).mono ?_; rintro r w2 ⟨a, c, rfl, hr, hc, hb⟩; have HY : Hd (RowY w1.heap.size w2 a L ∧ n ≤ c ∧ Below w1.heap.size w1 w2) := ⟨hr, hc, hb⟩; have HR : Hd (Rd B w2 R A t e) := ⟨HH.out.1.grown hb⟩; clear hr hc hb)
    | (go_at_call 37; refine (must_ok _ HR.out b 2).mono ?_; rintro r w3 ⟨rfl, h3, k3⟩))
  go_ret
  have hB1 : B ≤ w1.heap.size := Nat.le_trans HB HH.out.2.size
  refine ⟨_, rfl, ⟨a, c, by rw [HN.out]; rfl, (HY.out.1.mono hB1).kept k3 HR.out.free.s9, by rw [← HN.out]; exact HY.out.2.1, by have := HN.out; omega⟩, h3, (HH.out.2.trans (Kept.of_below HY.out.2.2 _)).trans k3⟩

theorem addRule_last (r : Rl) : ∀ (i : List Sc) (s : Sc), addRule r (i ++ [s]) = i ++ [withRule r s]
  | [], s => rfl
  | [a], s => rfl
  | a :: b :: i, s => by
    have := addRule_last r (b :: i) s
    show a :: addRule r (b :: i ++ [s]) = _
    rw [this]
    rfl
theorem rls_append {B : Nat} {w : World} {c : List Value} {r : Rl} (hr : RlV B w c r) : ∀ (cs : List Value) (rs : List Rl), RlsV B w cs rs → RlsV B w (cs ++ c) (rs ++ [r])
  | _, [], h => by
    cases h
    exact ⟨c, [], by simp, hr, rfl⟩
  | _, _ :: rs, ⟨c', cs', e, h1, h2⟩ => ⟨c', cs' ++ c, by rw [e, List.append_assoc], h1, rls_append hr cs' rs h2⟩

/-- One more rule. -/
theorem push_rl {B R A q cap sb m cS : Nat} {w w7 w8 : World} {T P S M : Int} {lv : List Lv} {ini : List Sc} {s : Sc} {ws : List ByteArray} {r : Rl} {o : Obj} {vL vr : Value} {Vi : List Value} {cs5 cs : List Value}
    (H : Rd B w7 R A ws 0) (hB : B ≤ A) (KW : KT B w w7) (hm : m = ini.length)
    (hA : Blk w7 A 30 #[.int .i64 T, .int .i64 P, .int .i64 S, .int .i64 M, vL, .slice (some ⟨sb, 0, none⟩) (m + 1) cS]) (hL : LvOwn B w7 vL lv) (hS : ScOwn B w7 (.slice (some ⟨sb, 0, none⟩) (m + 1) cS) (ini ++ [s]) (Vi ++ [vr])) (hV : Vi.length = ini.length)
    (hD : Dj (Vi ++ [vr])) (hro : w7.ownsRow B 51 5 vr s.rules.length cs) (hrv : RlsV B w7 cs s.rules) (h5 : RlV B w7 cs5 r)
    (hown : w8.ownsRow B 51 5 (.slice (some ⟨q, 0, none⟩) (s.rules.length + 1) cap) (s.rules.length + 1) (cs ++ cs5)) (hg : (w7.drew.alloc o).grownBy w8 vr.ownBlock) (hat : vr.ownBlock = some q ∨ q = w7.heap.size + 1) :
    Told B R A w (w8.setCell ⟨sb, m * 5 + 4, none⟩ (.slice (some ⟨q, 0, none⟩) (s.rules.length + 1) cap)) 0 ⟨T, P, S, M, lv, addRule r (ini ++ [s])⟩ := by
  have k := grown_kept hg
  have o9 : Off 9 _ w7 := off_own hro (by decide)
  have H8 := H.off k o9 (off_own hro (by decide))
  have A8 := hA.off k (off_own hro (by decide))
  have L8 := hL.off k (off_own hro (by decide))
  have S8 := owns_off hS.own k (off_own hro (by decide))
  obtain ⟨cur, hsb⟩ := owns_type S8 (g := sb) rfl
  have k9 : Kept (fun k => k = sb) w8 (w8.setCell ⟨sb, m * 5 + 4, none⟩ (.slice (some ⟨q, 0, none⟩) (s.rules.length + 1) cap)) := (Kept.refl _ w8).setCell ⟨sb, m * 5 + 4, none⟩ _ (.inl rfl)
  have hsB : B ≤ sb := (S8.lt sb rfl).1
  have hmV : Vi.length = m := by rw [hV, hm]
  have ne : ∀ u ∈ Vi, u.ownBlock ≠ some q := by
    intro u hu he
    rcases hat with e | e
    · rcases hD vr (by simp) with h | h
      · rw [h] at e; cases e
      · exact h u (by simpa using hu) (by rw [he, e])
    · obtain ⟨i, hi, rfl⟩ := List.getElem_of_mem hu
      obtain ⟨c', ho, _⟩ := hS.rls i (by simp; omega) (by simp; omega)
      rw [List.getElem_append_left hi] at ho
      have := (ho.lt q he).2
      omega
  have old : ∀ i (hi : i < Vi.length) (hi' : i < ini.length), RlOwn B (w8.setCell ⟨sb, m * 5 + 4, none⟩ (.slice (some ⟨q, 0, none⟩) (s.rules.length + 1) cap)) Vi[i] ini[i].rules := by
    intro i hi hi'
    have h1 := hS.rls i (by simp; omega) (by simp; omega)
    rw [List.getElem_append_left hi, List.getElem_append_left hi'] at h1
    refine (h1.kept k o9 (fun g hg' he => ?_)).off k9 (off_blk hsb (by decide)) (off_blk hsb (by decide))
    rcases hD vr (by simp) with h | h
    · rw [h] at he; cases he
    · exact h Vi[i] (by simp) (by rw [hg', he])
  have new : RlOwn B (w8.setCell ⟨sb, m * 5 + 4, none⟩ (.slice (some ⟨q, 0, none⟩) (s.rules.length + 1) cap)) (.slice (some ⟨q, 0, none⟩) (s.rules.length + 1) cap) (s.rules ++ [r]) := by
    have h1 := rls_append (h5.kept k o9) cs s.rules (RlsV.kept k o9 cs s.rules hrv)
    exact ⟨cs ++ cs5, by rw [List.length_append]; exact owns_off hown k9 (off_blk hsb (by decide)), RlsV.kept k9 (off_blk hsb (by decide)) _ _ h1⟩
  refine ⟨⟨ws, H8.other hsb (by decide) (by decide) (m * 5 + 4) _⟩, fun _ => ⟨hB, vL, .slice (some ⟨sb, 0, none⟩) (m + 1) cS, Vi ++ [.slice (some ⟨q, 0, none⟩) (s.rules.length + 1) cap], A8.off k9 (off_blk hsb (by decide)), L8.off k9 (off_blk hsb (by decide)), ?_, ?_⟩,
    KW.trans ((kt_own (Nat.le_trans hB (Nat.le_of_lt hA.lt)) hro (by decide) hg).trans (KT.of_kept k9 (Nat.le_trans hsB (Nat.le_of_lt hsb.lt)) (fun j hj => by rw [hj]; exact hsB) (off_blk hsb (by decide))))⟩
  · dsimp only
    rw [addRule_last]
    refine ⟨by simp [hV], ?_, ?_⟩
    · rw [scCs_append _ _ _ _ hV]
      have S8' := S8
      rw [scCs_append _ _ _ _ hV] at S8'
      obtain ⟨l1, l2⟩ := S8'
      rcases l2 with ⟨e, _⟩ | ⟨g', cap', cur', e, hB', hg', hc', hm', hs', ht'⟩
      · cases e
      · obtain ⟨rfl, rfl⟩ : sb = g' ∧ cS = cap' := by
          injection e with e1 _ e3
          injection e1 with e1
          injection e1 with e1 _
          exact ⟨e1, e3⟩
        refine ⟨by simpa [scC, withRule] using l1, .inr ⟨sb, cS, _, by simp [hm], hB', heap_setCell_same w8 sb (m * 5 + 4) cur' 49 _ hg', ?_, hm', by simpa using hs', ?_⟩⟩
        · simpa using hc'
        · have hl : (ini ++ [withRule r s]).length = (ini ++ [s]).length := by simp
          rw [Array.toList_setIfInBounds, hl, List.take_set, ht']
          rw [List.set_append_right _ _ (by rw [scCs_len _ _ hV, ← hm]; omega), scCs_len _ _ hV, ← hm, show m * 5 + 4 - m * 5 = 4 by omega]
          rfl
    · intro i hi hi'
      by_cases c : i < ini.length
      · have cV : i < Vi.length := by omega
        rw [List.getElem_append_left c, List.getElem_append_left cV]
        exact old i cV c
      · obtain rfl : i = ini.length := by simp at hi; omega
        have e1 : (ini ++ [withRule r s])[ini.length] = withRule r s := by simp
        have e2 : (Vi ++ [(.slice (some ⟨q, 0, none⟩) (s.rules.length + 1) cap : Value)])[ini.length]'hi' = .slice (some ⟨q, 0, none⟩) (s.rules.length + 1) cap := by
          rw [List.getElem_append_right (by omega)]
          simp [hV]
        rw [e1, e2]
        exact new
  · intro v hv
    rw [List.getLast?_append] at hv
    simp at hv
    subst hv
    right
    intro u hu
    rw [List.dropLast_concat] at hu
    exact ne u hu

end Go.Proofs.YtaodckojinbdfaaDoor
