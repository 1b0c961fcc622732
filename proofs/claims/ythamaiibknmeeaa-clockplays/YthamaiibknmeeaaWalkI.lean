/-
  What 'Pop', 'Remove' and 'Change' of the program do to a heap that lies in memory, and to nil. Conditions: as each theorem says them.
-/
import Derived.Test.YthamaiibknmeeaaWalkH
namespace Go.Proofs.Ythamaiibknmeeaa
open Go.RowKit Go.Lib Go.Sort Go.Maps

section
variable {w : World} {hb : Nat} {S : Nat → Prop} {M : Int × Int → Prop} {n : Nat}

/-- Where an item stands: it is found there, and may be taken out from there, or changed. -/
theorem HeapIs.place (h : HeapIs w hb S M n) (y : Int × Int) (hy : M y) : ∃ j : Nat, j < n ∧
    (Calls Try.prog 32 #[.pointer (some ⟨hb, 0, none⟩), .int .i64 y.2] w fun e w' => e = .returned (.tuple #[.int .i64 j, .bool true]) ∧ w' = w) ∧
    (Calls Try.prog 33 #[.pointer (some ⟨hb, 0, none⟩), .int .i64 j] w fun e w' => e = .returned (.tuple #[]) ∧ HeapIs w' hb S (fun z => M z ∧ z.2 ≠ y.2) (n - 1) ∧ Kept S w w') ∧
    ∀ x : Int × Int, x.2 = y.2 → Wf x → Calls Try.prog 31 #[.pointer (some ⟨hb, 0, none⟩), .int .i64 j, vI x] w fun e w' => e = .returned (.tuple #[]) ∧ HeapIs w' hb S (fun z => z = x ∨ M z ∧ z.2 ≠ x.2) n ∧ Kept S w w' := by
  have hwf := h.1 y hy
  obtain ⟨h1, hn, h3, h4, mb, sa, cap, f, pos, h5, h6, h7⟩ := h
  obtain ⟨j, hj, rfl⟩ := (h7.mem y).1 hy
  have hpj := (h7.at_ _ j).2 ⟨hj, rfl⟩
  obtain ⟨g, rfl, hg, hm⟩ := h6.hm (by omega)
  refine ⟨j, hj, ?_, ?_, ?_⟩
  · have := find_any h6 (f j).2 hwf.2
    rw [hpj] at this
    exact this
  · obtain ⟨m, rfl⟩ : ∃ m, n = m + 1 := ⟨n - 1, by omega⟩
    refine (take_any hm h7 h1 j hj hn).mono ?_
    rintro e w' ⟨rfl, f', pos', H', O', k'⟩
    refine ⟨rfl, ⟨fun z hz => h1 z hz.1, by omega, fun k hk => Nat.lt_of_lt_of_le (h3 k hk) k'.size, h4, mb, _, cap, f', pos', h5, H'.hs hg, O'⟩, k'.mono fun k _ e => ?_⟩
    rcases e with rfl | rfl | rfl
    · exact h4
    · exact hg
    · exact h5
  · intro x hx hwx
    have hpj' : pos x.2 = some j := by rw [hx]; exact hpj
    have S' := settle_any hm j x _ (h7.changed hpj') hwx (fun z hz => ⟨h1 z hz.1, hz.2⟩) (by omega) (by omega)
    rw [hpj', cnt_some] at S'
    refine S'.mono ?_
    rintro e w' ⟨rfl, f', pos', H', O', k'⟩
    refine ⟨rfl, ⟨fun z hz => ?_, hn, fun k hk => Nat.lt_of_lt_of_le (h3 k hk) k'.size, h4, mb, _, cap, f', pos', h5, H'.hs hg, O'⟩, k'.mono fun k _ e => ?_⟩
    · rcases hz with rfl | ⟨hz, _⟩
      · exact hwx
      · exact h1 z hz
    · rcases e with rfl | rfl
      · exact hg
      · exact h5

/-- The first one is at 0. -/
theorem HeapIs.first (h : HeapIs w hb S M n) (hn : 0 < n) : ∃ x, (M x ∧ ∀ y, M y → ¬ lt y x) ∧
    Calls Try.prog 33 #[.pointer (some ⟨hb, 0, none⟩), .int .i64 0] w fun e w' => e = .returned (.tuple #[]) ∧ HeapIs w' hb S (fun z => M z ∧ z.2 ≠ x.2) (n - 1) ∧ Kept S w w' := by
  obtain ⟨h1, hn', h3, h4, mb, sa, cap, f, pos, h5, h6, h7⟩ := h
  obtain ⟨g, rfl, hg, hm⟩ := h6.hm hn
  refine ⟨f 0, ⟨(h7.mem _).2 ⟨0, hn, rfl⟩, fun y hy => by obtain ⟨j, hj, rfl⟩ := (h7.mem y).1 hy; exact h7.least j hj⟩, ?_⟩
  obtain ⟨m, rfl⟩ : ∃ m, n = m + 1 := ⟨n - 1, by omega⟩
  refine (take_any hm h7 h1 0 hn hn').mono ?_
  rintro e w' ⟨rfl, f', pos', H', O', k'⟩
  refine ⟨rfl, ⟨fun z hz => h1 z hz.1, by omega, fun k hk => Nat.lt_of_lt_of_le (h3 k hk) k'.size, h4, mb, _, cap, f', pos', h5, H'.hs hg, O'⟩, k'.mono fun k _ e => ?_⟩
  rcases e with rfl | rfl | rfl
  · exact h4
  · exact hg
  · exact h5

theorem HeapIs.missing (h : HeapIs w hb S M n) (id : Int) (hid : -9223372036854775808 ≤ id ∧ id < 9223372036854775808) (hno : ∀ y, M y → y.2 ≠ id) :
    Calls Try.prog 32 #[.pointer (some ⟨hb, 0, none⟩), .int .i64 id] w fun e w' => e = .returned (.tuple #[.int .i64 0, .bool false]) ∧ w' = w := by
  obtain ⟨_, _, _, _, mb, sa, cap, f, pos, _, h6, h7⟩ := h
  have := find_any h6 id hid
  rw [(h7.none_iff id).2 hno] at this
  exact this
end

section
variable {w : World} {hb : Nat} {S : Nat → Prop} {M : Int × Int → Prop} {n : Nat}
theorem remove_none (h : HeapIs w hb S M n) (id : Int) (hid : -9223372036854775808 ≤ id ∧ id < 9223372036854775808) (hno : ∀ y, M y → y.2 ≠ id) :
    Calls Try.prog 25 #[.pointer (some ⟨hb, 0, none⟩), .int .i64 id] w fun e w' => e = .returned (.int .i64 6) ∧ w' = w := by
  have F := h.missing id hid hno
  clear h hno
  go_enter Try.func25, Try.ntmps25
  go_wp2_with (go_at_call 32; refine F.mono ?_; rintro e w' ⟨rfl, hw⟩; obtain rfl := hw.symm)
  go_ret
  exact ⟨rfl, rfl⟩
theorem remove_nil (id : Int) (w : World) : Calls Try.prog 25 #[.pointer none, .int .i64 id] w fun e w' => e = .returned (.int .i64 6) ∧ w' = w := by
  go_enter Try.func25, Try.ntmps25
  go_wp2_with (go_at_call 32; refine (find_nil _ _).mono ?_; rintro e w' ⟨rfl, hw⟩; obtain rfl := hw.symm)
  go_ret
  exact ⟨rfl, rfl⟩
theorem remove_some (h : HeapIs w hb S M n) (y : Int × Int) (hy : M y) : Calls Try.prog 25 #[.pointer (some ⟨hb, 0, none⟩), .int .i64 y.2] w fun e w' => e = .returned (.int .i64 0) ∧
    HeapIs w' hb S (fun z => M z ∧ z.2 ≠ y.2) (n - 1) ∧ Kept S w w' := by
  obtain ⟨j, hj, F, T, _⟩ := h.place y hy
  clear h hy
  go_enter Try.func25, Try.ntmps25
  go_wp2_with (first
    | (go_at_call 32; refine F.mono ?_; rintro e w' ⟨rfl, hw⟩; obtain rfl := hw.symm)
    | (go_at_call 33; refine T.mono ?_; rintro e w2 ⟨rfl, H2, k2⟩))
  go_ret
  exact ⟨rfl, H2, k2⟩

theorem least_unique {M : Int × Int → Prop} {x y : Int × Int} (hx : M x ∧ ∀ y, M y → ¬ lt y x) (hy : M y ∧ ∀ x, M x → ¬ lt x y) : x = y := lt_total (hy.2 x hx.1) (hx.2 y hy.1)

theorem pop_none (h : HeapIs w hb S M 0) : Calls Try.prog 27 #[.pointer (some ⟨hb, 0, none⟩)] w fun e w' => e = .returned (.tuple #[vI (0, 0), .bool false]) ∧ Below w.heap.size w w' := by
  have P := peek_none (h.below (w' := w.alloc (.cells #[.int .u64 0, .int .i64 0] 61)) ((Below.refl _ _).alloc (Nat.le_refl _) _))
  have b1 : Below w.heap.size w (w.alloc (.cells #[.int .u64 0, .int .i64 0] 61)) := (Below.refl _ _).alloc (Nat.le_refl _) _
  unfold vI at P ⊢
  go_enter Try.func27, Try.ntmps27
  go_wp2_with fail
  go_at_call 29
  refine P.mono ?_
  rintro e w2 ⟨rfl, b2⟩
  have bz0 : w2.cell? ⟨w.heap.size, 0, none⟩ = some (.int .u64 0) := (b2.cell (p := ⟨w.heap.size, 0, none⟩) (by simp)).trans (by simp [go_sem])
  have bz1 : w2.cell? ⟨w.heap.size, 1, none⟩ = some (.int .i64 0) := (b2.cell (p := ⟨w.heap.size, 1, none⟩) (by simp)).trans (by simp [go_sem])
  have bf0 : w2.frozen? ⟨w.heap.size, 0, none⟩ = false := (b2.frozen (p := ⟨w.heap.size, 0, none⟩) (by simp)).trans (by simp [go_sem])
  have bf1 : w2.frozen? ⟨w.heap.size, 1, none⟩ = false := (b2.frozen (p := ⟨w.heap.size, 1, none⟩) (by simp)).trans (by simp [go_sem])
  have hs : w.heap.size < w2.heap.size := Nat.lt_of_lt_of_le (by simp) b2.size
  have b3 : Below w.heap.size w w2 := b1.trans (b2.mono b1.size)
  clear b1 b2 P
  go_wp2
  refine bodyPost_ret (v := .tuple #[.agg #[.int .u64 0, .int .i64 0], .bool false]) (by simp [results, Try.results27, go_sem, hs, bz0, bz1]) rfl ⟨rfl, ((b3.setCell (p := ⟨w.heap.size, 0, none⟩) (Nat.le_refl _) _).setCell (p := ⟨w.heap.size, 1, none⟩) (Nat.le_refl _) _).alloc (by simpa using b3.size) _⟩
theorem pop_nil (w : World) : Calls Try.prog 27 #[.pointer none] w fun e w' => e = .returned (.tuple #[vI (0, 0), .bool false]) ∧ Below w.heap.size w w' := by
  have P := peek_nil (w.alloc (.cells #[.int .u64 0, .int .i64 0] 61))
  have b1 : Below w.heap.size w (w.alloc (.cells #[.int .u64 0, .int .i64 0] 61)) := (Below.refl _ _).alloc (Nat.le_refl _) _
  unfold vI at P ⊢
  go_enter Try.func27, Try.ntmps27
  go_wp2_with fail
  go_at_call 29
  refine P.mono ?_
  rintro e w2 ⟨rfl, b2⟩
  have bz0 : w2.cell? ⟨w.heap.size, 0, none⟩ = some (.int .u64 0) := (b2.cell (p := ⟨w.heap.size, 0, none⟩) (by simp)).trans (by simp [go_sem])
  have bz1 : w2.cell? ⟨w.heap.size, 1, none⟩ = some (.int .i64 0) := (b2.cell (p := ⟨w.heap.size, 1, none⟩) (by simp)).trans (by simp [go_sem])
  have bf0 : w2.frozen? ⟨w.heap.size, 0, none⟩ = false := (b2.frozen (p := ⟨w.heap.size, 0, none⟩) (by simp)).trans (by simp [go_sem])
  have bf1 : w2.frozen? ⟨w.heap.size, 1, none⟩ = false := (b2.frozen (p := ⟨w.heap.size, 1, none⟩) (by simp)).trans (by simp [go_sem])
  have hs : w.heap.size < w2.heap.size := Nat.lt_of_lt_of_le (by simp) b2.size
  have b3 : Below w.heap.size w w2 := b1.trans (b2.mono b1.size)
  clear b1 b2 P
  go_wp2
  refine bodyPost_ret (v := .tuple #[.agg #[.int .u64 0, .int .i64 0], .bool false]) (by simp [results, Try.results27, go_sem, hs, bz0, bz1]) rfl ⟨rfl, ((b3.setCell (p := ⟨w.heap.size, 0, none⟩) (Nat.le_refl _) _).setCell (p := ⟨w.heap.size, 1, none⟩) (Nat.le_refl _) _).alloc (by simpa using b3.size) _⟩
theorem pop_some (h : HeapIs w hb S M n) (hn : 0 < n) : Calls Try.prog 27 #[.pointer (some ⟨hb, 0, none⟩)] w fun e w' => ∃ x, e = .returned (.tuple #[vI x, .bool true]) ∧ (M x ∧ ∀ y, M y → ¬ lt y x) ∧
    HeapIs w' hb S (fun z => M z ∧ z.2 ≠ x.2) (n - 1) ∧ Kept S w w' := by
  have P := peek_some (h.below (w' := w.alloc (.cells #[.int .u64 0, .int .i64 0] 61)) ((Below.refl _ _).alloc (Nat.le_refl _) _)) hn
  have b1 : Below w.heap.size w (w.alloc (.cells #[.int .u64 0, .int .i64 0] 61)) := (Below.refl _ _).alloc (Nat.le_refl _) _
  unfold vI at P ⊢
  go_enter Try.func27, Try.ntmps27
  go_wp2_with fail
  go_at_call 29
  refine P.mono ?_
  rintro e w2 ⟨x, rfl, hx, b2⟩
  have bz0 : w2.cell? ⟨w.heap.size, 0, none⟩ = some (.int .u64 0) := (b2.cell (p := ⟨w.heap.size, 0, none⟩) (by simp)).trans (by simp [go_sem])
  have bz1 : w2.cell? ⟨w.heap.size, 1, none⟩ = some (.int .i64 0) := (b2.cell (p := ⟨w.heap.size, 1, none⟩) (by simp)).trans (by simp [go_sem])
  have bf0 : w2.frozen? ⟨w.heap.size, 0, none⟩ = false := (b2.frozen (p := ⟨w.heap.size, 0, none⟩) (by simp)).trans (by simp [go_sem])
  have bf1 : w2.frozen? ⟨w.heap.size, 1, none⟩ = false := (b2.frozen (p := ⟨w.heap.size, 1, none⟩) (by simp)).trans (by simp [go_sem])
  have hs : w.heap.size < w2.heap.size := Nat.lt_of_lt_of_le (by simp) b2.size
  have b3 : Below w.heap.size w w2 := b1.trans (b2.mono b1.size)
  have b4 : Below w.heap.size w (w2.alloc (.cells #[.int .u64 x.1, .int .i64 x.2] 61)) := b3.alloc b3.size _
  obtain ⟨z, hz, T⟩ := (h.below b4).first hn
  obtain rfl := least_unique hx hz
  have hS : ∀ k, S k → k < w.heap.size := h.2.2.1
  obtain ⟨R, hR⟩ : ∃ R, R = w.heap.size := ⟨_, rfl⟩
  have nR : ¬ S R := fun h => by have := hS _ h; omega
  have nR2 : ¬ S w2.heap.size := fun h => by have := hS _ h; omega
  rw [← hR] at bz0 bz1 bf0 bf1 hs ⊢
  have hRS : w.heap.size ≤ R := by omega
  clear b1 b2 P hz hR
  go_wp2_with fail
  go_at_call 33
  refine T.mono ?_
  rintro e w3 ⟨rfl, H3, k3⟩
  have cz0 : w3.cell? ⟨w2.heap.size, 0, none⟩ = some (.int .u64 x.1) := (k3.cell (o := 0) (by simp) nR2).trans (by simp [go_sem])
  have cz1 : w3.cell? ⟨w2.heap.size, 1, none⟩ = some (.int .i64 x.2) := (k3.cell (o := 1) (by simp) nR2).trans (by simp [go_sem])
  have hs3 : R < (w2.alloc (.cells #[.int .u64 x.1, .int .i64 x.2] 61)).heap.size := by simp; omega
  have dz0 : w3.cell? ⟨R, 0, none⟩ = some (.int .u64 0) := (k3.cell (o := 0) hs3 nR).trans (by simp [go_sem, hs, bz0])
  have dz1 : w3.cell? ⟨R, 1, none⟩ = some (.int .i64 0) := (k3.cell (o := 1) hs3 nR).trans (by simp [go_sem, hs, bz1])
  have df0 : w3.frozen? ⟨R, 0, none⟩ = false := (k3.frozen (o := 0) hs3 nR).trans (by simp [go_sem, hs, bf0])
  have df1 : w3.frozen? ⟨R, 1, none⟩ = false := (k3.frozen (o := 1) hs3 nR).trans (by simp [go_sem, hs, bf1])
  have k4 : Kept S w w3 := (Kept.of_below b4 S).trans k3
  clear T k3 b3 b4 bz0 bz1 bf0 bf1 hs3
  go_wp2
  refine bodyPost_ret (v := .tuple #[.agg #[.int .u64 x.1, .int .i64 x.2], .bool true]) (by simp [results, Try.results27, go_sem, dz0, dz1]) rfl ⟨x, rfl, hx, ?_⟩
  have k5 : Kept (fun k => k = R) w3 ((w3.setCell ⟨R, 0, none⟩ (.int .u64 x.1)).setCell ⟨R, 1, none⟩ (.int .i64 x.2)) := ((Kept.refl (fun k => k = R) w3).setCell ⟨R, 0, none⟩ _ rfl).setCell ⟨R, 1, none⟩ _ rfl
  exact ⟨H3.kept k5 (fun b hb e => nR (e ▸ hb)), k4.then k5 (fun j hj e => by omega)⟩
end
end Go.Proofs.Ythamaiibknmeeaa
