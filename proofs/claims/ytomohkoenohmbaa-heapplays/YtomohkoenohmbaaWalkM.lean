/-
  What 'slices.Clone' answers of the items of a heap; what 'List' answers; what 'Same' of the reference answers. Conditions: as each theorem says them.
-/
import Derived.Test.YtomohkoenohmbaaWalkL
namespace Go.Proofs.Ytomohkoenohmbaa
open Go.RowKit Go.Lib Go.Sort Go.Maps

theorem cells_at {w : World} {x : Addr} {n : Nat} {f : Nat → Int × Int} (h : Row w (some x) n f) : ∀ j u, (cellsOf f n)[j]? = some u → w.cell? (x.add j) = some u := by
  intro j u hj
  have hl : j < n * 2 := by
    by_cases c : j < n * 2
    · exact c
    · rw [List.getElem?_eq_none (by rw [cellsOf_len]; omega)] at hj; cases hj
  rw [cellsOf_get f n j hl] at hj
  obtain ⟨b, off, e, _, hc⟩ := h (by omega)
  cases e
  rw [Go.WideShapes.add_plain]
  obtain ⟨h1, h2⟩ := hc (j / 2) (by omega)
  by_cases c : j % 2 = 0
  · rw [if_pos c] at hj
    rw [show off + j / 2 * 2 = off + j by omega] at h1
    rw [h1]; exact hj
  · rw [if_neg c] at hj
    rw [show off + j / 2 * 2 + 1 = off + j by omega] at h2
    rw [h2]; exact hj

theorem eqlNil (a : Addr) (n cap : Nat) (w : World) : (binOp BinOp.eql 26 (.slice (some a) n cap) (.slice none 0 0)).run Try.prog w = .ok (.bool false) w := by kernel_rfl

theorem clone_any {w : World} {g n cap : Nat} {f : Nat → Int × Int} (h : Own w g n f) (hn : n ≤ 4096) (h0 : 0 < n) :
    Calls Try.prog 27 #[.slice (some ⟨g, 0, none⟩) n cap] w fun e w' => ∃ g' c', e = .returned (.slice (some ⟨g', 0, none⟩) n c') ∧ w.heap.size ≤ g' ∧ Arr w' g' n c' f ∧ Below w.heap.size w w' := by
  obtain ⟨i0, hi, hz0, hz1, hz2⟩ := info_parts Try.info29
  have hown : (w.alloc (.cells #[] 29)).ownsRow w.heap.size 29 2 (.slice (some ⟨w.heap.size, 0, none⟩) 0 0) 0 [] := World.ownsRow_lit (e := 29) w #[] 0 (Nat.le_refl _) (by unfold maxLen; omega) rfl
  have hbA : Below w.heap.size w (w.alloc (.cells #[] 29)) := (Below.refl _ _).alloc (Nat.le_refl _) _
  have hrA : Row (w.alloc (.cells #[] 29)) (some ⟨g, 0, none⟩) n f := h.row.carry hbA
  have CA := cells_at hrA
  have CO := cells_one f n
  have CL := cellsOf_len f n
  have EN := eqlNil
  clear hrA h
  go_enter Try.func27, Try.ntmps27
  go_wp2_with (at_builtin; refine wpList_append_lies _ rfl (.tmp 5) (.tmp 6) 26 rfl w.heap.size 29 i0 (.agg #[.int .u64 0, .int .i64 0]) 2 16 Try.underlying26 hi hz0 hz1 hz2 rfl (by decide) _ 0 [] rfl hown ⟨g, 0, none⟩ n cap (cellsOf f n) rfl CL CA CO h0 (by unfold maxLen; omega) (by omega) (by simp) _ rfl ?_; intro g' c' w2 hown' hgrow hat hlt)
  go_ret
  rw [Nat.zero_add, List.nil_append] at hown'
  have hb2 : Below w.heap.size w w2 := hbA.grown hgrow (by simp) (fun q e => (hown.lt q e).1)
  have hg' : w.heap.size ≤ g' := by
    rcases hat with e | e
    · exact (hown.lt g' e).1
    · rw [e]; simp
  exact ⟨g', c', by simp, hg', Arr.of_owns hown', hb2⟩

/-- The n items of a list, in memory of its own from B on. -/
structure ListAt (B : Nat) (w : World) (a : Option Addr) (n cap : Nat) (L : List (Int × Int)) : Prop where
  len : L.length = n
  nil : a = none → n = 0 ∧ cap = 0
  own : 0 < n → ∃ g, a = some ⟨g, 0, none⟩ ∧ B ≤ g ∧ Own w g n (fun i => L.getD i (0, 0))

theorem ListAt.row {B : Nat} {w : World} {a : Option Addr} {n cap : Nat} {L : List (Int × Int)} (h : ListAt B w a n cap L) : Row w a n (fun i => L.getD i (0, 0)) := by
  intro hn
  obtain ⟨g, rfl, _, O⟩ := h.own hn
  exact O.row hn

theorem list_none {w : World} {hb : Nat} {S : Nat → Prop} {M : Int × Int → Prop} (h : HeapIs w hb S M 0) : Calls Try.prog 20 #[.pointer (some ⟨hb, 0, none⟩)] w fun e w' => e = .returned (.slice none 0 0) ∧ w' = w := by
  have L := len_any h
  go_enter Try.func20, Try.ntmps20
  go_wp2_with (go_at_call 22; refine L.mono ?_; rintro e w' ⟨rfl, hw⟩; obtain rfl := hw.symm)
  go_ret
  exact ⟨rfl, rfl⟩
theorem list_nil (w : World) : Calls Try.prog 20 #[.pointer none] w fun e w' => e = .returned (.slice none 0 0) ∧ w' = w := by
  go_enter Try.func20, Try.ntmps20
  go_wp2_with (go_at_call 22; refine (len_nil _).mono ?_; rintro e w' ⟨rfl, hw⟩; obtain rfl := hw.symm)
  go_ret
  exact ⟨rfl, rfl⟩

theorem list_some {w : World} {hb : Nat} {S : Nat → Prop} {M : Int × Int → Prop} {n : Nat} (h : HeapIs w hb S M n) (hn : 0 < n) : Calls Try.prog 20 #[.pointer (some ⟨hb, 0, none⟩)] w fun e w' =>
    ∃ (a : Option Addr) (cap : Nat) (L : List (Int × Int)), e = .returned (.slice a n cap) ∧ ListAt w.heap.size w' a n cap L ∧ ListOf L M ∧ Below w.heap.size w w' := by
  have LN := len_any h
  have hids := fun (y z : Int × Int) (hy : M y) (hz : M z) (e : y.2 = z.2) => h.ids hy hz e
  obtain ⟨_, hn', _, _, mb, sa, cap, f, pos, _, h6, h7⟩ := h
  obtain ⟨g, rfl, _, hm⟩ := h6.hm hn
  have C := clone_any (cap := cap) hm.arr.own hn' hn
  have c0 := hm.c0
  have e0 : ((n : Int) == 0) = false := by simp; omega
  clear h6 hm
  go_enter Try.func20, Try.ntmps20
  go_wp2_with fail
  go_at_call 22
  refine LN.mono ?_
  rintro e w' ⟨rfl, hw⟩
  obtain rfl := hw.symm
  go_wp2_with fail
  go_at_call 27
  refine C.mono ?_
  rintro e w2 ⟨g', c', rfl, hg', A2, b2⟩
  have SO := sort_any c' A2.own hn'
  clear C LN
  go_wp2_with fail
  go_at_call 28
  refine SO.mono ?_
  rintro e w3 ⟨rfl, f3, O3, hs3, hm3, k3⟩
  go_wp2
  go_ret
  have b3 : Below w.heap.size w w3 := b2.trans (k3.below b2.size (fun k e => by rw [e]; exact hg'))
  have hLM : ∀ y, y ∈ listOf f3 n ↔ M y := fun y => by rw [hm3.mem_iff, listOf_mem, h7.mem]
  have hinj : ∀ i j, i < n → j < n → f i = f j → i = j := by
    intro i j h1 h2 e
    have e1 := (h7.at_ _ i).2 ⟨h1, rfl⟩
    have e2 := (h7.at_ _ j).2 ⟨h2, rfl⟩
    rw [e, e2] at e1
    cases e1
    rfl
  have hnd : (listOf f n).Nodup := by
    rw [List.nodup_iff_pairwise_ne, List.pairwise_iff_getElem]
    intro i j h1 h2 h3 e
    rw [listOf_len] at h1 h2
    simp [listOf] at e
    have := hinj i j h1 h2 e
    omega
  have hnd3 : (listOf f3 n).Nodup := hm3.nodup_iff.2 hnd
  have hpw : (listOf f3 n).Pairwise lt := by
    rw [List.nodup_iff_pairwise_ne, List.pairwise_iff_getElem] at hnd3
    rw [List.pairwise_iff_getElem]
    intro i j h1 h2 h3
    have e := hnd3 i j h1 h2 h3
    rw [listOf_len] at h1 h2
    simp [listOf] at e ⊢
    by_cases c : lt (f3 i) (f3 j)
    · exact c
    · exact absurd (lt_total c (hs3 i j h3 h2)) e
  exact ⟨_, c', listOf f3 n, rfl, ⟨listOf_len _ _, fun h => (by cases h), fun _ => ⟨g', rfl, hg', O3.congr fun k hk => (listOf_getD f3 n k hk).symm⟩⟩, ⟨hpw, hLM⟩, b3⟩
end Go.Proofs.Ytomohkoenohmbaa
