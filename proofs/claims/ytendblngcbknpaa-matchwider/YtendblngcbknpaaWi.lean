/-
  'wider' of the law: a list with one more text, and the list that means all. Condition: the list lies in memory, and has no more than 1000 texts.
-/
import Derived.Test.YtendblngcbknpaaCq
namespace Go.Proofs.Ytendblngcbknpaa
open Go.RowKit

def widL (L : List ByteArray) (x : ByteArray) : List ByteArray := if allT L = true then L else L ++ [x]
theorem anyT_more (L : List ByteArray) (x y : ByteArray) (h : anyT L y = true) : anyT (L ++ [x]) y = true := by
  unfold anyT at *
  rw [List.any_append, h]
  rfl
theorem hasB_wid (L : List ByteArray) (x y : ByteArray) (h : hasB L y = true) : hasB (widL L x) y = true := by
  unfold widL
  by_cases ha : allT L = true
  · rw [if_pos ha]; exact h
  · rw [if_neg ha]
    unfold hasB at *
    rw [Bool.not_eq_true] at ha
    rw [ha, Bool.false_or] at h
    rw [anyT_more L x y h, Bool.or_true]
theorem ruleB_wid (r : Rl) (q : Rq) (y0 y1 y2 y3 y4 : ByteArray) (h : ruleB r q = true) : ruleB ⟨widL r.users y0, widL r.groups y1, widL r.verbs y2, widL r.resources y3, widL r.spaces y4⟩ q = true := by
  unfold ruleB askB at *
  rw [Bool.and_eq_true, Bool.and_eq_true, Bool.and_eq_true, Bool.or_eq_true] at h ⊢
  obtain ⟨⟨⟨h0, h1⟩, h2⟩, h3⟩ := h
  refine ⟨⟨⟨?_, hasB_wid _ _ _ h1⟩, hasB_wid _ _ _ h2⟩, hasB_wid _ _ _ h3⟩
  rcases h0 with h0 | h0
  · exact .inl (hasB_wid _ _ _ h0)
  · refine .inr ?_
    unfold anyG at *
    rw [List.any_eq_true] at *
    obtain ⟨g, hg, hh⟩ := h0
    exact ⟨g, hg, hasB_wid _ _ _ hh⟩
/-- A list, laid anew or as it is. -/
structure Wi (w : World) (L : List ByteArray) (e : Ending) (w' : World) : Prop where
  ex : ∃ a n c, e = .returned (.slice a n c) ∧ LsR w' (.slice a n c) L
  bel : Below w.heap.size w w'
theorem one_row (w : World) (x : ByteArray) : ∀ j u, [Value.string x][j]? = some u → (w.alloc (.cells #[.string x] 9)).cell? (Addr.add ⟨w.heap.size, 0, none⟩ j) = some u := fun j u hu => by
  rw [Go.WideShapes.add_plain]
  have := (Blk.new w 9 #[.string x]).cell (0 + j)
  rw [this]
  simpa using hu

set_option maxHeartbeats 2000000 in
theorem wider_ok (a : Option Addr) (n c : Nat) (L : List ByteArray) (x : ByteArray) (w : World) (h : LsR w (.slice a n c) L) (h8 : L.length ≤ 1000) (hx : x.size ≤ 9223372036854775807) :
    Calls Try.prog 20 #[.slice a n c, .string x] w fun e w' => Wi w (widL L x) e w' := by
  have HL0 : Hd (LsR w (.slice a n c) L) := ⟨h⟩
  obtain ⟨a', c', e', hr', hc', hl', hx'⟩ := h
  have hng : n = L.length := by injection e'
  have hag : a = a' := by injection e'
  subst hag
  have HR : Hd (RowL w a L) := ⟨hr'⟩
  have HN : Hd (n = L.length) := ⟨hng⟩
  have HL : Hd (L.length ≤ 1000) := ⟨h8⟩
  clear hr' hc' e' hl'
  by_cases hall : allT L = true
  · have HW : Hd (widL L x = L) := ⟨if_pos hall⟩
    unfold allT at hall
    have h1 : n = 1 := by simp at hall; omega
    have hs : gt L 0 = star := by simp at hall; exact hall.2
    obtain ⟨b, off, rfl, hb, hcs⟩ := HR.out (by omega)
    have c0 : w.cell? ⟨b, off, none⟩ = some (.string (gt L 0)) := hcs 0 (by omega)
    have S := star_eq (gt L 0)
    rw [decide_eq_true hs] at S
    subst h1
    clear hcs hs hall hng h8 hx'
    generalize gt L 0 = y at *
    go_enter Try.func20, Try.ntmps20
    go_wp2_with fail
    go_ret
    exact ⟨⟨_, _, _, rfl, by rw [HW.out]; exact HL0.out⟩, Below.refl _ _⟩
  · have HW : Hd (widL L x = L ++ [x]) := ⟨if_neg hall⟩
    have HF : Hd (∀ W v', OwnT w.heap.size W v' (L ++ [x]) → Below w.heap.size w W → Wi w (widL L x) (.returned v') W) := ⟨fun W v' ho hb => by
      rw [HW.out]
      obtain ⟨a2, c2, rfl, -⟩ := ho.shape
      refine ⟨⟨_, _, _, rfl, own_ls ho (by simp; omega) fun y hy => ?_⟩, hb⟩
      rcases List.mem_append.1 hy with h | h
      · exact hx' y h
      · rw [List.mem_singleton.1 h]; exact hx⟩
    obtain ⟨i0, hi, hz0, hz1, hz2⟩ := info_parts info9
    have own0 := own_new w
    have gz : w.heap.size ≤ (w.alloc (.cells #[] 9)).heap.size := (alloc_below w _).size
    -- the second append
    have NX : Hd (∀ W a2 c2, OwnT w.heap.size W (.slice a2 L.length c2) L → Below w.heap.size w W → (W.alloc (.cells #[.string x] 9)).ownsRow w.heap.size 9 1 (.slice a2 L.length c2) L.length (L.map Value.string) ∧ Below w.heap.size w (W.alloc (.cells #[.string x] 9)) ∧ w.heap.size ≤ (W.alloc (.cells #[.string x] 9)).heap.size) := ⟨fun W a2 c2 ho hb => by
      have AB := alloc_below W (.cells #[.string x] 9)
      have B2 : Below w.heap.size w (W.alloc (.cells #[.string x] 9)) := hb.trans (AB.mono hb.size)
      exact ⟨ho.off (Kept.of_below AB (fun _ => False)) (Off.none _ _), B2, B2.size⟩⟩
    have O2 : ∀ u ∈ [Value.string x], u.oneCell' = true := row_one [x]
    cases a with
    | none =>
      have E := row_nil HR.out
      subst E
      have e0 : n = 0 := HN.out
      subst e0
      obtain ⟨own1, bA, gz1⟩ := NX.out (w.alloc (.cells #[] 9)) (some ⟨w.heap.size, 0, none⟩) 0 own0 (alloc_below _ _)
      change (World.alloc _ _).ownsRow _ _ _ (.slice (some ⟨w.heap.size, 0, none⟩) 0 0) 0 [] at own1
      have R1 : ∀ j u, [Value.string x][j]? = some u → ((w.alloc (.cells #[] 9)).alloc (.cells #[.string x] 9)).cell? (Addr.add ⟨w.heap.size + 1, 0, none⟩ j) = some u := by
        have := one_row (w.alloc (.cells #[] 9)) x
        rw [show (w.alloc (.cells #[] 9)).heap.size = w.heap.size + 1 by simp] at this
        exact this
      clear hall h8 hx' NX HR hng gz HL0 own0
      go_enter Try.func20, Try.ntmps20
      go_upto_region 3 with fail
      go_wp2_with (first | (at_builtin; go_loud (refine wpList_append_own _ rfl _ _ 25 rfl w.heap.size 9 i0 (.string ByteArray.empty) 1 16 Try.underlying25 hi hz0 hz1 hz2 rfl (by decide) _ _ _ rfl own1 _ 1 1 [.string x] rfl (by simp) R1 O2 (by have := HL.out; unfold maxLen; omega) (by have := HL.out; omega) gz1 ?_; intro v'' w'' hown hgr _; have F : Hd (Wi w (widL [] x) (.returned v'') w'') := ⟨HF.out w'' v'' (by unfold OwnT; simpa using hown) (bA.grown hgr gz1 (fun y hy => (own1.lt y hy).1))⟩)))
      go_ret
      exact F.out
    | some ad =>
      by_cases h1 : n = 1
      case' pos =>
        obtain ⟨b, off, e, hb, hcs⟩ := HR.out (by omega)
        injection e with e
        subst e
        have c0 : w.cell? ⟨b, off, none⟩ = some (.string (gt L 0)) := hcs 0 (by omega)
        have S : ((gt L 0).toList == [42]) = false := by
          rw [star_eq]
          refine decide_eq_false fun hs => hall ?_
          unfold allT
          rw [decide_eq_true (by omega : L.length = 1), decide_eq_true hs]
          rfl
        have N1 := one_yes h1
        have Z : 0 < n := by omega
        clear hcs hall h1 hng h8 hx'
        generalize hy : gt L 0 = y at c0 S
        clear hy
      case' neg =>
        have N1 := one_no h1
        clear hall h1 hng h8 hx'
      all_goals
        have NW := row_new HR.out
        have O1 := row_one L
        go_enter Try.func20, Try.ntmps20
        go_upto_region 3 with fail
        clear N1
        try clear c0
        try clear S
        go_wp2_with (first | (at_builtin; go_loud (refine wpList_append_own _ rfl _ _ 25 rfl w.heap.size 9 i0 (.string ByteArray.empty) 1 16 Try.underlying25 hi hz0 hz1 hz2 rfl (by decide) _ _ _ rfl own0 _ n c (L.map Value.string) rfl (by rw [List.length_map, HN.out, Nat.mul_one]) NW O1 (by have := HL.out; have := HN.out; unfold maxLen; omega) (by have := HL.out; have := HN.out; omega) gz ?_; intro v' w' hown hgr _; have bW : Below w.heap.size w w' := (alloc_below w _).grown hgr gz (fun x hx => Nat.le_of_eq (Option.some.inj hx)); have ho : OwnT w.heap.size w' v' L := (by unfold OwnT; have e := HN.out; subst e; simpa using hown); obtain ⟨a2, c2, e2, -⟩ := ho.shape; subst e2; obtain ⟨own1, bA, gz1⟩ := NX.out w' a2 c2 ho bW; clear hown hgr bW ho NW O1 own0 gz NX HR)) | (at_builtin; go_loud (refine wpList_append_own _ rfl _ _ 25 rfl w.heap.size 9 i0 (.string ByteArray.empty) 1 16 Try.underlying25 hi hz0 hz1 hz2 rfl (by decide) _ _ _ rfl own1 _ 1 1 [.string x] rfl (by simp) (one_row _ x) O2 (by have := HL.out; unfold maxLen; omega) (by have := HL.out; omega) gz1 ?_; intro v'' w'' hown hgr _; have F : Hd (Wi w (widL L x) (.returned v'') w'') := ⟨HF.out w'' v'' (by unfold OwnT; simpa using hown) (bA.grown hgr gz1 (fun y hy => (own1.lt y hy).1))⟩)))
        go_ret
        exact F.out
end Go.Proofs.Ytendblngcbknpaa
