/-
  What 'Next' and 'Advance' of the program answer of a clock. Conditions: as each theorem says them.
-/
import Derived.Test.YthamaiibknmeeaaClk
namespace Go.Proofs.Ythamaiibknmeeaa
open Go.RowKit Go.Lib Go.Sort Go.Maps

section
variable {w : World} {cb : Nat} {S : Nat → Prop} {t : Int} {M : Int × Int → Prop} {n : Nat}
theorem next_none (h : Clk w cb S t M 0) : Calls Try.prog 17 #[.pointer (some ⟨cb, 0, none⟩)] w fun e w' => e = .returned (.tuple #[vD (0, 0), .bool false]) ∧ Below w.heap.size w w' := by
  have b1 : Below w.heap.size w (w.alloc (.cells #[.int .i64 0, .int .i64 0] 43)) := (Below.refl _ _).alloc (Nat.le_refl _) _
  obtain ⟨hb, T, c1, h2, _⟩ := h.heap
  have hl := h.lt _ h.own
  have hd := h.due
  have L := peek_none (h2.below b1)
  clear h h2
  unfold vI at L
  unfold vD
  go_enter Try.func17, Try.ntmps17
  go_wp2_with fail
  go_at_call 29
  refine L.mono ?_
  rintro e w2 ⟨rfl, b2⟩
  have bz0 : w2.cell? ⟨w.heap.size, 0, none⟩ = some (.int .i64 0) := (b2.cell (p := ⟨w.heap.size, 0, none⟩) (by simp)).trans (by simp [go_sem])
  have bz1 : w2.cell? ⟨w.heap.size, 1, none⟩ = some (.int .i64 0) := (b2.cell (p := ⟨w.heap.size, 1, none⟩) (by simp)).trans (by simp [go_sem])
  have bf0 : w2.frozen? ⟨w.heap.size, 0, none⟩ = false := (b2.frozen (p := ⟨w.heap.size, 0, none⟩) (by simp)).trans (by simp [go_sem])
  have bf1 : w2.frozen? ⟨w.heap.size, 1, none⟩ = false := (b2.frozen (p := ⟨w.heap.size, 1, none⟩) (by simp)).trans (by simp [go_sem])
  have hs : w.heap.size < w2.heap.size := Nat.lt_of_lt_of_le (by simp) b2.size
  have b3 : Below w.heap.size w w2 := b1.trans (b2.mono b1.size)
  clear b1 b2 L hd
  go_wp2
  refine bodyPost_ret (v := .tuple #[.agg #[.int .i64 (0, 0).2, .int .i64 (0, 0).1], .bool false]) (by simp [results, Try.results17, go_sem, hs, bz0, bz1]) rfl ?_
  exact ⟨rfl, ((b3.setCell (p := ⟨w.heap.size, 0, none⟩) (Nat.le_refl _) _).setCell (p := ⟨w.heap.size, 1, none⟩) (Nat.le_refl _) _).alloc (by simpa using b3.size) _⟩
theorem next_some (h : Clk w cb S t M n) (hn : 0 < n) : Calls Try.prog 17 #[.pointer (some ⟨cb, 0, none⟩)] w fun e w' => ∃ x, e = .returned (.tuple #[vD x, .bool true]) ∧ (M x ∧ ∀ y, M y → ¬ lt y x) ∧ Below w.heap.size w w' := by
  have b1 : Below w.heap.size w (w.alloc (.cells #[.int .i64 0, .int .i64 0] 43)) := (Below.refl _ _).alloc (Nat.le_refl _) _
  obtain ⟨hb, T, c1, h2, _⟩ := h.heap
  have hl := h.lt _ h.own
  have hd := h.due
  have L := peek_some (h2.below b1) hn
  clear h h2
  unfold vI at L
  unfold vD
  go_enter Try.func17, Try.ntmps17
  go_wp2_with fail
  go_at_call 29
  refine L.mono ?_
  rintro e w2 ⟨x, rfl, hx, b2⟩
  obtain ⟨hx0, hx1⟩ := hd x hx.1
  have bz0 : w2.cell? ⟨w.heap.size, 0, none⟩ = some (.int .i64 0) := (b2.cell (p := ⟨w.heap.size, 0, none⟩) (by simp)).trans (by simp [go_sem])
  have bz1 : w2.cell? ⟨w.heap.size, 1, none⟩ = some (.int .i64 0) := (b2.cell (p := ⟨w.heap.size, 1, none⟩) (by simp)).trans (by simp [go_sem])
  have bf0 : w2.frozen? ⟨w.heap.size, 0, none⟩ = false := (b2.frozen (p := ⟨w.heap.size, 0, none⟩) (by simp)).trans (by simp [go_sem])
  have bf1 : w2.frozen? ⟨w.heap.size, 1, none⟩ = false := (b2.frozen (p := ⟨w.heap.size, 1, none⟩) (by simp)).trans (by simp [go_sem])
  have hs : w.heap.size < w2.heap.size := Nat.lt_of_lt_of_le (by simp) b2.size
  have b3 : Below w.heap.size w w2 := b1.trans (b2.mono b1.size)
  clear b1 b2 L hd
  go_wp2
  refine bodyPost_ret (v := .tuple #[.agg #[.int .i64 x.2, .int .i64 x.1], .bool true]) (by simp [results, Try.results17, go_sem, hs, bz0, bz1]) rfl ?_
  exact ⟨x, rfl, hx, ((b3.setCell (p := ⟨w.heap.size, 0, none⟩) (Nat.le_refl _) _).setCell (p := ⟨w.heap.size, 1, none⟩) (Nat.le_refl _) _).alloc (by simpa using b3.size) _⟩

theorem advance_early (h : Clk w cb S t M n) (to : Int) (c : to < t) : Calls Try.prog 14 #[.pointer (some ⟨cb, 0, none⟩), .int .i64 to] w fun e w' => e = .returned (.tuple #[.slice none 0 0, .int .i64 1]) ∧ w' = w := by
  have c0 := h.now
  clear h
  go_enter Try.func14, Try.ntmps14
  go_wp2
  go_ret2
  exact ⟨rfl, rfl⟩
theorem advance_late (h : Clk w cb S t M n) (to : Int) (c : t ≤ to) (c2 : 1099511627776 < to) : Calls Try.prog 14 #[.pointer (some ⟨cb, 0, none⟩), .int .i64 to] w fun e w' => e = .returned (.tuple #[.slice none 0 0, .int .i64 1]) ∧ w' = w := by
  have c0 := h.now
  clear h
  go_enter Try.func14, Try.ntmps14
  go_wp2
  go_ret2
  exact ⟨rfl, rfl⟩

theorem Clk.setNow (h : Clk w cb S t M n) (to : Int) (h0 : 0 ≤ to) (h1 : to ≤ 1099511627776) : Clk (w.setCell ⟨cb, 0, none⟩ (.int .i64 to)) cb S to M n := by
  obtain ⟨hb, T, c1, h2, h3, h4⟩ := h.heap
  have hl := h.lt _ h.own
  have c0 := h.now
  have f0 := h.free
  have k : Kept (fun j => j = cb) w (w.setCell ⟨cb, 0, none⟩ (.int .i64 to)) := (Kept.refl _ w).setCell _ _ rfl
  refine ⟨fun j hj => by simpa using h.lt j hj, h.own, ?_, ?_, h0, h1, h.due, hb, T, ?_, h2.kept k (fun b hb e => h4 (e ▸ hb)), h3, h4⟩
  · simp [go_sem, c0]
  · simp [go_sem, f0]
  · simp [go_sem, c1]
end

/-- L was told, in order, of those of M; those of N are still to be due. -/
structure Told (to : Int) (M N : Int × Int → Prop) (L : List (Int × Int)) : Prop where
  order : L.Pairwise lt
  was : ∀ y ∈ L, M y ∧ y.1 ≤ to
  rest : ∀ y, N y ↔ M y ∧ y ∉ L
  first : ∀ y ∈ L, ∀ z, N z → lt y z

theorem Told.nil (to : Int) (M : Int × Int → Prop) : Told to M M [] := ⟨.nil, fun _ h => (by cases h), fun y => ⟨fun h => ⟨h, fun e => (by cases e)⟩, fun h => h.1⟩, fun _ h => (by cases h)⟩
theorem Told.more {to : Int} {M N : Int × Int → Prop} {L : List (Int × Int)} (h : Told to M N L) {x : Int × Int} (hx : N x ∧ ∀ y, N y → ¬ lt y x) (hi : ∀ y z, N y → N z → y.2 = z.2 → y = z) (ht : x.1 ≤ to) : Told to M (fun z => N z ∧ z.2 ≠ x.2) (L ++ [x]) := by
  refine ⟨List.pairwise_append.2 ⟨h.order, List.pairwise_singleton _ _, fun a ha b hb => ?_⟩, fun y hy => ?_, fun y => ?_, fun y hy z hz => ?_⟩
  · rw [List.mem_singleton] at hb
    rw [hb]
    exact h.first a ha x hx.1
  · rcases List.mem_append.1 hy with hy | hy
    · exact h.was y hy
    · rw [List.mem_singleton] at hy
      rw [hy]
      exact ⟨((h.rest x).1 hx.1).1, ht⟩
  · rw [List.mem_append, List.mem_singleton, h.rest]
    constructor
    · rintro ⟨⟨h1, h2⟩, h3⟩
      exact ⟨h1, fun e => e.elim h2 fun e => h3 (by rw [e])⟩
    · rintro ⟨h1, h2⟩
      refine ⟨⟨h1, fun e => h2 (.inl e)⟩, fun e => h2 (.inr ?_)⟩
      exact hi _ _ ((h.rest y).2 ⟨h1, fun e => h2 (.inl e)⟩) hx.1 e
  · rcases List.mem_append.1 hy with hy | hy
    · exact h.first y hy z hz.1
    · rw [List.mem_singleton] at hy
      rw [hy]
      exact lt_of_ne (hx.2 z hz.1) (fun e => hz.2 e.symm)
theorem Told.done {to : Int} {M N : Int × Int → Prop} {L : List (Int × Int)} (h : Told to M N L) (hN : ∀ y, N y → to < y.1) : ListOf L (fun y => M y ∧ y.1 ≤ to) ∧ ∀ y, (M y ∧ to < y.1) ↔ N y := by
  have hm : ∀ y, M y → y.1 ≤ to → y ∈ L := by
    intro y h1 h2
    by_cases c : y ∈ L
    · exact c
    · have := hN y ((h.rest y).2 ⟨h1, c⟩); omega
  refine ⟨⟨h.order, fun y => ⟨h.was y, fun a => hm y a.1 a.2⟩⟩, fun y => ⟨fun a => (h.rest y).2 ⟨a.1, fun e => ?_⟩, fun a => ⟨((h.rest y).1 a).1, hN y a⟩⟩⟩
  have := (h.was y e).2
  omega

/-- How long a slice is. -/
def lenOf : Value → Nat
  | .slice _ n _ => n
  | _ => 0

set_option maxRecDepth 20000 in
set_option maxHeartbeats 1000000 in
theorem advance_ok {w : World} {cb : Nat} {S : Nat → Prop} {t : Int} {M : Int × Int → Prop} {n : Nat} (h : Clk w cb S t M n) (to : Int) (c : t ≤ to) (c2 : to ≤ 1099511627776) : Calls Try.prog 14 #[.pointer (some ⟨cb, 0, none⟩), .int .i64 to] w fun e w' =>
    ∃ v L, e = .returned (.tuple #[v, .int .i64 0]) ∧ DOwn w.heap.size w' v L ∧ ListOf L (fun y => M y ∧ y.1 ≤ to) ∧ L.length ≤ n ∧ Clk w' cb S to (fun y => M y ∧ to < y.1) (n - L.length) ∧ Kept S w w' ∧ (L = [] → v = .slice none 0 0) := by
  obtain ⟨i0, hi, hz0, hz1, hz2⟩ := info_parts Try.info43
  have c0 := h.now
  have f0 := h.free
  have t0 := h.t0
  have hS := h.lt
  have H := h.setNow to (by omega) c2
  have hn := h.le
  have K0 : Kept S w (w.setCell ⟨cb, 0, none⟩ (.int .i64 to)) := (Kept.refl _ w).setCell _ _ h.own
  clear h
  go_enter Try.func14, Try.ntmps14
  go_wp2_with fail
  go_loopw [6, 7, 8] (fun v _ _ wr => ∃ L N m, DOwn w.heap.size wr v L ∧ Clk wr cb S to N m ∧ Kept S w wr ∧ m + L.length = n ∧ Told to M N L ∧ (L = [] → v = .slice none 0 0)) (fun v _ _ _ => n - lenOf v)
  case atStart => exact ⟨[], M, n, DOwn.nil _ _, H, K0, rfl, Told.nil to M, fun _ => rfl⟩
  case round =>
    obtain ⟨L, N, m, D, C, K, e, TL, hnil⟩ := hrel
    obtain ⟨a, cap, rfl, _, _, hL, _⟩ := D.form
    clear H K0 c0 f0
    by_cases hm : 0 < m
    · have NX := next_some C hm
      unfold vD at NX
      go_wp2_with fail
      go_at_call 17
      refine NX.mono ?_
      rintro e1 w2 ⟨x, rfl, hx, b2⟩
      clear NX
      obtain ⟨w3, hw3⟩ : ∃ w3, w3 = w2.alloc (.cells #[.int .i64 x.2, .int .i64 x.1] 43) := ⟨_, rfl⟩
      have b3 : Below wr.heap.size wr w3 := hw3 ▸ b2.alloc b2.size _
      have d0 : w3.cell? ⟨w2.heap.size, 0, none⟩ = some (.int .i64 x.2) := by rw [hw3]; simp [go_sem]
      have d1 : w3.cell? ⟨w2.heap.size, 1, none⟩ = some (.int .i64 x.1) := by rw [hw3]; simp [go_sem]
      have hs3 : w2.heap.size < w3.heap.size := by rw [hw3]; simp
      have D3 := D.below b3
      have C3 := C.below b3
      have K3 : Kept S w w3 := K.trans (Kept.of_below b3 S)
      by_cases c3 : to < x.1
      · go_wp2
        go_ret2
        rw [← hw3]
        obtain ⟨q1, q2⟩ := TL.done (fun y hy => by have := hx.2 y hy; unfold lt at this; omega)
        refine ⟨_, L, rfl, D3, q1, by omega, ?_, K3, hnil⟩
        rw [show n - L.length = m by omega]
        exact C3.congr q2
      · have D4 : (w3.alloc (.cells #[.int .i64 x.2, .int .i64 x.1] 43)).ownsRow w.heap.size 43 2 (.slice a L.length cap) L.length (dcl L) := World.ownsRow.alloc D3 _
        have b4 : Below w3.heap.size w3 (w3.alloc (.cells #[.int .i64 x.2, .int .i64 x.1] 43)) := (Below.refl _ _).alloc (Nat.le_refl _) _
        have C4 := C3.below b4
        have K4 : Kept S w (w3.alloc (.cells #[.int .i64 x.2, .int .i64 x.1] 43)) := K3.alloc _
        have DN := due_new w3 x
        have hws := K3.size
        have TM := TL.more hx (fun y z hy hz => C.ids hy hz) (by omega)
        have hm' : 0 < m := hm
        have hw2 : w.heap.size ≤ w2.heap.size := Nat.le_trans K.size b2.size
        have hLn : L.length < 4096 := by omega
        have CC : ∀ w5, (w3.alloc (.cells #[.int .i64 x.2, .int .i64 x.1] 43)).grownBy w5 (Value.slice a L.length cap).ownBlock → Clk w5 cb S to N m ∧ Kept S w w5 := by
          intro w5 hg
          have k5 : Kept (fun k => (Value.slice a L.length cap).ownBlock = some k) (w3.alloc (.cells #[.int .i64 x.2, .int .i64 x.1] 43)) w5 := Kept.of_grown hg fun k e => e
          refine ⟨C4.kept k5 fun k hk e => ?_, K4.then k5 fun k hk e => ?_⟩
          · have := (D4.lt k e).1; have := hS k hk; omega
          · have := (D4.lt k e).1; omega
        clear D C b2 b3 D3 C3 TL K d0 d1 hs3 K3 b4 hws C4 K4
        subst hw3
        rw [show (w2.alloc (.cells #[.int .i64 x.2, .int .i64 x.1] 43)).heap.size = w2.heap.size + 1 by simp] at DN
        go_wp2_with (at_builtin; refine wpList_append_lies _ rfl (.tmp 39) (.tmp 41) 26 rfl w.heap.size 43 i0 (.agg #[.int .i64 0, .int .i64 0]) 2 16 Try.underlying26 hi hz0 hz1 hz2 rfl (by decide) _ L.length (dcl L) rfl D4 ⟨w2.heap.size + 1, 0, none⟩ 1 1 (dcl [x]) rfl rfl DN (dcl_one _) (by decide) (by unfold maxLen; omega) (by omega) (by simp; omega) _ rfl ?_; intro g' c' w5 hown' hgrow hat hlt; obtain ⟨C5, K5⟩ := CC w5 hgrow; obtain ⟨hb, T, e5, h2, h3, h4⟩ := C5.heap; have PP := pop_some h2 hm')
        have hl5 := C5.lt _ C5.own
        clear hat hlt DN CC D4 hgrow h2
        go_at_call 27
        refine PP.mono ?_
        rintro e6 w6 ⟨x', rfl, hx', h6, k6⟩
        obtain rfl := least_unique hx hx'
        rw [← dcl_append] at hown'
        have C6 : Clk w6 cb S to (fun z => N z ∧ z.2 ≠ x.2) (m - 1) := ⟨fun j hj => Nat.lt_of_lt_of_le (C5.lt j hj) k6.size, C5.own, (k6.cell hl5 h4).trans C5.now, (k6.frozen hl5 h4).trans C5.free, C5.t0, C5.t1, fun z hz => C5.due z hz.1, hb, T, (k6.cell hl5 h4).trans e5, h6, h3, h4⟩
        have D6 : DOwn w.heap.size w6 (.slice (some ⟨g', 0, none⟩) (L.length + 1) c') (L ++ [x]) := by
          refine DOwn.kept (w := w5) (show w5.ownsRow _ _ _ _ _ _ by rw [List.length_append]; exact hown') k6 fun k e hT => ?_
          have := (hown'.lt k e).1
          have := hS k (h3 k hT)
          omega
        have K6 : Kept S w w6 := K5.trans (k6.mono fun j _ hj => h3 j hj)
        clear PP hown' C5 K5 k6 h6 h3 h4
        go_wp2
        go_roundw
        case rel => exact ⟨L ++ [x], _, m - 1, D6, C6, K6, by simp; omega, TM, fun e => absurd e (by simp)⟩
        case measure => simp [lenOf]; omega
    · obtain rfl : m = 0 := by omega
      have NX := next_none C
      unfold vD at NX
      go_wp2_with fail
      go_at_call 17
      refine NX.mono ?_
      rintro e1 w2 ⟨rfl, b2⟩
      have b3 : Below wr.heap.size wr (w2.alloc (.cells #[.int .i64 0, .int .i64 0] 43)) := b2.alloc b2.size _
      clear NX
      go_wp2
      go_ret2
      obtain ⟨q1, q2⟩ := TL.done (fun y hy => absurd hy (C.empty y))
      refine ⟨_, L, rfl, D.below b3, q1, by omega, ?_, K.trans (Kept.of_below b3 S), hnil⟩
      rw [show n - L.length = 0 by omega]
      exact (C.below b3).congr q2
end Go.Proofs.Ythamaiibknmeeaa
