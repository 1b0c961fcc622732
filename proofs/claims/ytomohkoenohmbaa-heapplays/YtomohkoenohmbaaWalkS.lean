/-
  What 'Push', 'Remove' and 'Change' of the reference answer, told of a list in order that lies in memory beside a heap. Conditions: as each theorem says them.
-/
import Derived.Test.YtomohkoenohmbaaWalkR
namespace Go.Proofs.Ytomohkoenohmbaa
open Go.RowKit Go.Lib Go.Sort Go.Maps

theorem ListOf.index {L : List (Int × Int)} {M : Int × Int → Prop} (h : ListOf L M) (hid : ∀ y z, M y → M z → y.2 = z.2 → y = z) {y : Int × Int} (hy : M y) :
    ∃ p, p < L.length ∧ L.getD p (0, 0) = y ∧ ∀ k, k < p → (L.getD k (0, 0)).2 ≠ y.2 := by
  obtain ⟨p, hp, e⟩ := mem_getD ((h.2 y).2 hy)
  refine ⟨p, hp, e, fun k hk ee => ?_⟩
  have hkl : k < L.length := by omega
  have hMk := (h.2 _).1 (getD_mem hkl)
  have eq := hid _ _ hMk hy ee
  have := List.pairwise_iff_getElem.1 h.1 k p hkl hp hk
  rw [List.getD_eq_getElem?_getD, List.getElem?_eq_getElem hkl] at eq
  rw [List.getD_eq_getElem?_getD, List.getElem?_eq_getElem hp] at e
  simp at eq e
  rw [eq, e] at this
  exact lt_irrefl _ this

section
variable {S : Nat → Prop} {w : World} {a : Option Addr} {n cap : Nat} {L : List (Int × Int)} {M : Int × Int → Prop}

theorem RL.miss (R : RL S w a n cap L) (O : ListOf L M) {id : Int} (hno : ∀ y, M y → y.2 ≠ id) : ∀ k, k < n → (L.getD k (0, 0)).2 ≠ id :=
  fun k hk => hno _ ((O.2 _).1 (getD_mem (by rw [R.len]; exact hk)))

theorem ref_push (R : RL S w a n cap L) (O : ListOf L M) (hS : ∀ k, S k → k < w.heap.size) (hn : n < 4096) (x : Int × Int) (hno : ∀ y, M y → y.2 ≠ x.2) :
    Calls Try.prog 10 #[.slice a n cap, vI x] w fun e w' => ∃ a' c' L', e = .returned (.tuple #[.slice a' (n + 1) c', .int .i64 0]) ∧ RL S w' a' (n + 1) c' L' ∧ ListOf L' (fun y => y = x ∨ M y) ∧ Below w.heap.size w w' := by
  have hlen := R.len
  have fin : ∀ v w', Pushed w n L x v w' → ∃ a' c' L', v = .slice a' (n + 1) c' ∧ RL S w' a' (n + 1) c' L' ∧ ListOf L' (fun y => y = x ∨ M y) ∧ Below w.heap.size w w' := by
    rintro v w' ⟨k, g, c, rfl, ⟨h1, h2, h3⟩, hg, A, b⟩
    refine ⟨_, c, L.take k ++ x :: L.drop k, rfl, RL.of_arr A ?_ (fun h => by have := hS g h; omega), O.put (by omega) h2 (fun h => h3 (by omega)) hno, b⟩
    rw [List.length_append, List.length_cons, List.length_take, List.length_drop]
    omega
  cases a with
  | none =>
    obtain ⟨rfl, rfl⟩ := R.nil rfl
    obtain rfl := List.eq_nil_of_length_eq_zero hlen
    refine (rpush_none w x).mono ?_
    rintro e w' ⟨v, rfl, P⟩
    obtain ⟨a', c', L', rfl, h1, h2, h3⟩ := fin v w' P
    exact ⟨a', c', L', rfl, h1, h2, h3⟩
  | some ad =>
    obtain ⟨b, off, rfl⟩ := R.spot ad rfl
    refine (rpush_some R hn x (R.miss O hno)).mono ?_
    rintro e w' ⟨v, rfl, P⟩
    obtain ⟨a', c', L', rfl, h1, h2, h3⟩ := fin v w' P
    exact ⟨a', c', L', rfl, h1, h2, h3⟩

theorem ref_twice (R : RL S w a n cap L) (O : ListOf L M) (hid : ∀ y z, M y → M z → y.2 = z.2 → y = z) (hn : n ≤ 4096) (x y : Int × Int) (hy : M y) (e : y.2 = x.2) :
    Calls Try.prog 10 #[.slice a n cap, vI x] w fun e w' => e = .returned (.tuple #[.slice a n cap, .int .i64 5]) ∧ Below w.heap.size w w' := by
  obtain ⟨p, hp, e1, e2⟩ := O.index hid hy
  exact rpush_twice R hn x p (by rw [← R.len]; exact hp) (by rw [e1]; exact e) (fun k hk => by rw [← e]; exact e2 k hk)

theorem ref_gone (R : RL S w a n cap L) (O : ListOf L M) (hn : n ≤ 4096) (id : Int) (hno : ∀ y, M y → y.2 ≠ id) :
    Calls Try.prog 13 #[.slice a n cap, .int .i64 id] w fun e w' => e = .returned (.tuple #[.slice a n cap, .int .i64 6]) ∧ w' = w := rremove_miss R hn id (R.miss O hno)

theorem ref_remove (R : RL S w a n cap L) (O : ListOf L M) (hid : ∀ y z, M y → M z → y.2 = z.2 → y = z) (hS : ∀ k, S k → k < w.heap.size) (hn : n ≤ 4096) (y : Int × Int) (hy : M y) :
    Calls Try.prog 13 #[.slice a n cap, .int .i64 y.2] w fun e w' => ∃ a' c' L', e = .returned (.tuple #[.slice a' (n - 1) c', .int .i64 0]) ∧ RL S w' a' (n - 1) c' L' ∧ ListOf L' (fun z => M z ∧ z.2 ≠ y.2) ∧ 0 < n ∧ Below w.heap.size w w' := by
  have hlen := R.len
  obtain ⟨p, hp, e1, e2⟩ := O.index hid hy
  refine (rremove_hit R hn y.2 p (by omega) (by rw [e1]) e2).mono ?_
  rintro e w' ⟨v, rfl, hown, b⟩
  have OL := O.out hid hp
  rw [e1] at OL
  have hl : (L.take p ++ L.drop (p + 1)).length = n - 1 := by
    rw [List.length_append, List.length_take, List.length_drop]
    omega
  rcases hown.2 with ⟨rfl, h0⟩ | ⟨g, c, cur, rfl, hg, _⟩
  · refine ⟨none, 0, _, by rw [h0], ?_, OL, by omega, b⟩
    have hL : L.take p ++ L.drop (p + 1) = [] := List.eq_nil_of_length_eq_zero (by omega)
    rw [hL, h0]
    exact RL.none S w'
  · exact ⟨_, c, _, rfl, RL.of_arr (Arr.of_owns hown) hl (fun h => by have := hS g h; omega), OL, by omega, b⟩

theorem ref_changeNone (R : RL S w a n cap L) (O : ListOf L M) (hn : n ≤ 4096) (x : Int × Int) (hno : ∀ y, M y → y.2 ≠ x.2) :
    Calls Try.prog 15 #[.slice a n cap, vI x] w fun e w' => e = .returned (.tuple #[.slice a n cap, .int .i64 6]) ∧ Below w.heap.size w w' := by
  have G := fun o => ref_gone (R.below (w' := w.alloc o) ((Below.refl _ _).alloc (Nat.le_refl _) _)) O hn x.2 hno
  clear R O hno
  unfold vI
  go_enter Try.func15, Try.ntmps15
  go_wp2_with (go_at_call 13; refine (G _).mono ?_; rintro e w' ⟨rfl, hw⟩; obtain rfl := hw.symm)
  go_ret2
  exact ⟨rfl, (Below.refl _ _).alloc (Nat.le_refl _) _⟩

theorem ref_change (R : RL S w a n cap L) (O : ListOf L M) (hid : ∀ y z, M y → M z → y.2 = z.2 → y = z) (hS : ∀ k, S k → k < w.heap.size) (hn : n ≤ 4096) (x y : Int × Int) (hy : M y) (e : y.2 = x.2) :
    Calls Try.prog 15 #[.slice a n cap, vI x] w fun e w' => ∃ a' c' L', e = .returned (.tuple #[.slice a' n c', .int .i64 0]) ∧ RL S w' a' n c' L' ∧ ListOf L' (fun z => z = x ∨ M z ∧ z.2 ≠ x.2) ∧ Below w.heap.size w w' := by
  obtain ⟨w1, hw1⟩ : ∃ w1, w1 = w.alloc (.cells #[.int .u64 x.1, .int .i64 x.2] 29) := ⟨_, rfl⟩
  have b1 : Below w.heap.size w w1 := hw1 ▸ (Below.refl _ _).alloc (Nat.le_refl _) _
  have bx0 : w1.cell? ⟨w.heap.size, 0, none⟩ = some (.int .u64 x.1) := by rw [hw1]; simp [go_sem]
  have bx1 : w1.cell? ⟨w.heap.size, 1, none⟩ = some (.int .i64 x.2) := by rw [hw1]; simp [go_sem]
  have bl : w.heap.size < w1.heap.size := by rw [hw1]; simp
  have G := ref_remove (R.below b1) O hid (fun k hk => Nat.lt_of_lt_of_le (hS k hk) b1.size) hn y hy
  rw [e] at G
  unfold vI
  go_enter Try.func15, Try.ntmps15
  go_wp2_with fail
  rw [← hw1]
  clear hw1
  go_at_call 13
  refine G.mono ?_
  rintro e w2 ⟨a2, c2, L2, rfl, R2, O2, h0, b2⟩
  have z0 := (b2.cell (p := ⟨w.heap.size, 0, none⟩) bl).trans bx0
  have z1 := (b2.cell (p := ⟨w.heap.size, 1, none⟩) bl).trans bx1
  have b3 := b1.trans (b2.mono b1.size)
  have P := ref_push R2 O2 (fun k hk => Nat.lt_of_lt_of_le (hS k hk) b3.size) (by omega) x (fun z hz => hz.2)
  rw [Nat.sub_add_cancel h0] at P
  unfold vI at P
  clear G bx0 bx1 b2
  go_wp2_with (go_at_call 10; refine P.mono ?_; rintro e w3 ⟨a3, c3, L3, rfl, R3, O3, b4⟩)
  go_ret2
  exact ⟨a3, c3, L3, rfl, R3, O3, b3.trans (b4.mono b3.size)⟩
end
end Go.Proofs.Ytomohkoenohmbaa
