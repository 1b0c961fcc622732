/-
  'Code', 'Is', 'At' and 'Of' of the program, for every chain of Faults around a number or nothing. Condition of 'Code': errorType holds what its text lays.
  'nearest', 'Line' and 'What' of the program, for every chain of Faults around a number or nothing. Condition: errorType holds what its text lays.
  'nearest', 'Line' and 'What' of the program: the whole search, for every chain of Faults around a number or nothing. Condition: errorType holds what its text lays.
  'What' and 'Of' of the program's faults. Condition: errorType holds what its text lays.
-/
import Derived.Test.YthkdbphgiobcdaaGreatDoorB32
namespace Go.Proofs.YthkdbphgiobcdaaGreatDoor
open Go.RowKit Go.Extern.Stop Go.Stop Go.Extern

theorem put_other (B : Base) (t : Addr) (w : World) (k : Nat) (h : k ≠ t.block) : (B.put t w).heap[k]? = w.heap[k]? := by
  rcases B with n | ⟨⟩
  · exact Below.heap_setCell _ _ _ _ h
  · rfl
theorem put_below {B : Base} {t : Addr} {w w1 : World} {k : Nat} (h : Below k w w1) (ht : k ≤ t.block) : Below k w (B.put t w1) := by
  rcases B with n | ⟨⟩
  · exact h.setCell ht _
  · exact h

theorem code1_ok (B : Base) (ls : List Lk) (pe t : Addr) (old : Value) (w : World) (he : ET w) (hp : w.cell? pe = some (val B ls)) (ht : w.cell? t = some old) (hf : w.frozen? t = false)
    (T : TypeId) (u : Value) (hv : val B ls = .iface T u) :
    Calls Tryz.prog 32 #[.pointer (some pe), .pointer (some t)] w fun e w' => e = .returned (.bool B.isNum) ∧ ∃ w1, Below w.heap.size w w1 ∧ w' = B.put t w1 := by
  have C := as_num B ls t old w he ht hf T u hv
  rw [hv] at hp C
  clear he ht hf hv
  go_enter Tryz.func32, Tryz.ntmps32
  go_wp2_with (go_at_call 33; refine C.mono ?_; rintro e w' ⟨rfl, w1, hb, rfl⟩)
  go_ret
  exact ⟨rfl, w1, hb, rfl⟩

/-- The number that a chain tells. -/
def Base.code : Base → Int
  | .inl n => n
  | _ => 1
def codeOf (B : Base) : List Lk → Int
  | [] => match B with
    | .inr _ => 0
    | _ => B.code
  | _ => B.code

theorem code_nil (w : World) : Calls Tryz.prog 12 #[.nilIface] w fun e w' => e = .returned (.int .i64 0) ∧ Below w.heap.size w w' := by
  have b : Hd (Below w.heap.size w (w.alloc (.cells #[.nilIface] 33))) := ⟨(Below.refl _ _).alloc (Nat.le_refl _) _⟩
  go_enter Tryz.func12, Tryz.ntmps12
  go_wp2
  go_ret
  exact ⟨rfl, b.out⟩

theorem ans_step {w wB w1 : World} {n : Nat} {t : Addr} {B : Base} (hB : Below w.heap.size w wB) (h1 : Below (wB.alloc (.cells #[.bool false] 4)).heap.size (wB.alloc (.cells #[.bool false] 4)) w1)
    (hn : n = w.heap.size) (ht : n ≤ t.block) (b : Bool) : Below n w ((B.put t w1).setCell ⟨wB.heap.size, 0, none⟩ (.bool b)) := by
  subst hn
  have h2 : Below w.heap.size w (wB.alloc (.cells #[.bool false] 4)) := hB.alloc hB.size _
  exact (put_below (h2.trans (h1.mono (by have := h2.size; omega))) ht).setCell (p := ⟨wB.heap.size, 0, none⟩) hB.size _

theorem code_some (B : Base) (ls : List Lk) (w : World) (he : ET w) (T : TypeId) (u : Value) (hv : val B ls = .iface T u) :
    Calls Tryz.prog 12 #[val B ls] w fun e w' => e = .returned (.int .i64 B.code) ∧ Below w.heap.size w w' := by
  have hmf : ∀ (fn : Fn) (first cap : Array Value) (w : World), (Instr.makeFunc fn first cap).run Tryz.prog w = .ok (.func fn first cap) w := fun _ _ _ _ => rfl
  obtain ⟨wB, hwB⟩ : ∃ wB, wB = (w.alloc (.cells #[val B ls] 33)).alloc (.cells #[.int .i64 0] 38) := ⟨_, rfl⟩
  have bB : Below w.heap.size w wB := by rw [hwB]; exact ((Below.refl _ _).alloc (Nat.le_refl _) _).alloc (by simp) _
  have sB : wB.heap.size = w.heap.size + 2 := by rw [hwB]; simp
  have bY : Below wB.heap.size wB (wB.alloc (.cells #[.bool false] 4)) := (Below.refl _ _).alloc (Nat.le_refl _) _
  have c1 := code1_ok B ls ⟨w.heap.size, 0, none⟩ ⟨w.heap.size + 1, 0, none⟩ (.int .i64 0) (wB.alloc (.cells #[.bool false] 4)) ((he.stays bB).stays bY)
    ((bY.cell (p := ⟨w.heap.size, 0, none⟩) (by simp only; omega)).trans (by rw [hwB]; simp)) ((bY.cell (p := ⟨w.heap.size + 1, 0, none⟩) (by simp only; omega)).trans (by rw [hwB]; simp))
    ((bY.frozen (p := ⟨w.heap.size + 1, 0, none⟩) (by simp only; omega)).trans (by rw [hwB]; simp)) T u hv
  have A := answers_ok 32 (enters_of Tryz.func32 (by kernel_rfl) rfl) (.pointer (some ⟨w.heap.size, 0, none⟩)) (.pointer (some ⟨w.heap.size + 1, 0, none⟩)) B.isNum
    (fun w' => ∃ w1, Below (wB.alloc (.cells #[.bool false] 4)).heap.size (wB.alloc (.cells #[.bool false] 4)) w1 ∧ w' = B.put ⟨w.heap.size + 1, 0, none⟩ w1) wB c1 (by
      rintro w2 ⟨w1, h1, rfl⟩
      have e : (B.put ⟨w.heap.size + 1, 0, none⟩ w1).heap[wB.heap.size]? = (wB.alloc (.cells #[.bool false] 4)).heap[wB.heap.size]? :=
        (put_other _ _ _ _ (by simp only; omega)).trans (h1.block _ (by simp))
      exact ⟨(World.cell?_of_block (a := ⟨wB.heap.size, 0, none⟩) e).trans (by simp), (World.frozen?_of_block (a := ⟨wB.heap.size, 0, none⟩) e).trans (by simp)⟩)
  have A' : Calls Tryz.prog 31 #[.func (.func 32) #[] #[.pointer (some ⟨w.heap.size, 0, none⟩), .pointer (some ⟨w.heap.size + 1, 0, none⟩)]] wB fun e w' => e = .returned (.bool B.isNum) ∧ Below w.heap.size w w' ∧ ∀ n, B = (.inl n) → w'.cell? ⟨w.heap.size + 1, 0, none⟩ = some (.int .i64 n) := by
    refine A.mono ?_
    rintro e w' ⟨rfl, w2, ⟨w1, h1, rfl⟩, rfl⟩
    refine ⟨rfl, ans_step bB h1 rfl (by simp) _, ?_⟩
    rintro n rfl
    have e0 : w1.cell? ⟨w.heap.size + 1, 0, none⟩ = some (.int .i64 0) := (h1.cell (p := ⟨w.heap.size + 1, 0, none⟩) (by simp [sB])).trans ((bY.cell (p := ⟨w.heap.size + 1, 0, none⟩) (by simp only; omega)).trans (by rw [hwB]; simp))
    rw [World.cell?_setCell_other]
    · exact World.cell?_setCell_same _ _ _ e0
    · intro e; have := (Addr.mk.inj e).1; omega
  clear A c1 bY sB bB he
  subst hwB
  rw [hv] at A' ⊢
  clear hv
  rcases B with n | ⟨⟩
  ·
    simp only [Base.isNum] at A'
    go_enter Tryz.func12, Tryz.ntmps12
    go_wp2_with (go_at_call 31; refine A'.mono ?_; rintro e w' ⟨rfl, hb, hn⟩; have hn' := hn n rfl; clear hn; have HB : Hd (Below w.heap.size w w') := ⟨hb⟩; clear hb)
    go_ret
    exact ⟨rfl, HB.out⟩
  ·
    simp only [Base.isNum] at A'
    go_enter Tryz.func12, Tryz.ntmps12
    go_wp2_with (go_at_call 31; refine A'.mono ?_; rintro e w' ⟨rfl, hb, hn⟩; clear hn; have HB : Hd (Below w.heap.size w w') := ⟨hb⟩; clear hb)
    go_ret
    exact ⟨rfl, HB.out⟩

theorem code_ok (B : Base) (ls : List Lk) (w : World) (he : ET w) :
    Calls Tryz.prog 12 #[val B ls] w fun e w' => e = .returned (.int .i64 (codeOf B ls)) ∧ Below w.heap.size w w' := by
  rcases val_is B ls with ⟨rfl, rfl⟩ | ⟨T, u, hv⟩
  · exact code_nil w
  · have h := code_some B ls w he T u hv
    cases ls with
    | nil =>
      rcases B with n | ⟨⟩
      · exact h
      · cases hv
    | cons l ls => exact h

end Go.Proofs.YthkdbphgiobcdaaGreatDoor

namespace Go.Proofs.YthkdbphgiobcdaaGreatDoor
open Go.RowKit Go.Extern.Stop Go.Stop Go.Extern

theorem near1_hit (L : Int) (S : ByteArray) (z : Value) (hz : z.oneCell' = true) (pe : Addr) (tb : Nat) (x0 : Int) (y0 : ByteArray) (z0 : Value) (w : World) (he : ET w)
    (hp : w.cell? pe = some (.iface 74 (.agg #[.int .i64 L, .string S, z]))) (ht : Flt w tb x0 y0 z0) :
    Calls Tryz.prog 73 #[.pointer (some pe), .pointer (some ⟨tb, 0, none⟩)] w fun e w' => e = .returned (.bool true) ∧ ∃ w1, Below w.heap.size w w1 ∧ w' = set3 tb L S z w1 := by
  have C := as_hit L S z hz tb x0 y0 z0 w he ht
  clear he ht hz
  go_enter Tryz.func73, Tryz.ntmps73
  go_wp2_with (go_at_call 33; refine C.mono ?_; rintro e w' ⟨rfl, w1, hb, rfl⟩)
  go_ret
  exact ⟨rfl, w1, hb, rfl⟩
theorem near1_miss (B : Base) (pe : Addr) (tb : Nat) (x0 : Int) (y0 : ByteArray) (z0 : Value) (w : World) (he : ET w) (hp : w.cell? pe = some B.val) (ht : Flt w tb x0 y0 z0) :
    Calls Tryz.prog 73 #[.pointer (some pe), .pointer (some ⟨tb, 0, none⟩)] w fun e w' => e = .returned (.bool false) ∧ Below w.heap.size w w' := by
  have C : Calls Tryz.prog 33 #[B.val, .iface 115 (.pointer (some ⟨tb, 0, none⟩))] w fun e w' => e = .returned (.bool false) ∧ Below w.heap.size w w' := by
    by_cases hB : B = (.inr ())
    · subst hB
      refine (as_nil _ w).mono ?_
      rintro e w' ⟨rfl, rfl⟩
      exact ⟨rfl, Below.refl _ _⟩
    · exact as_miss B hB tb x0 y0 z0 w he ht
  clear he ht
  generalize B.val = q at *
  go_enter Tryz.func73, Tryz.ntmps73
  go_wp2_with (go_at_call 33; refine C.mono ?_; rintro e w' ⟨rfl, hb⟩)
  go_ret
  exact ⟨rfl, hb⟩

/-- A function value that answers whether a Fault says something. -/
def Says (g : Nat) (p : Int → ByteArray → Bool) : Prop :=
  Enters Tryz.prog g ∧ ∀ (x : Int) (y : ByteArray) (z : Value) (w : World), z.oneCell' = true → Calls Tryz.prog g #[.agg #[.int .i64 x, .string y, z]] w fun e w' => e = .returned (.bool (p x y)) ∧ Below w.heap.size w w'
/-- The first Fault that says it. -/
def near (p : Int → ByteArray → Bool) : List Lk → Lk
  | [] => ⟨0, ⟨#[]⟩⟩
  | l :: ls => if p l.line l.what then l else near p ls

/-- The state of the search: the error that is asked next, the answer that is laid, the Fault that was found last. -/
structure St (w wr : World) (q : Value) (x : Int) (y : ByteArray) (z : Value) : Prop where
  bel : Below w.heap.size w wr
  sz : w.heap.size + 2 < wr.heap.size
  err : wr.cell? ⟨w.heap.size, 0, none⟩ = some q
  frz : wr.frozen? ⟨w.heap.size, 0, none⟩ = false
  ans : Flt wr (w.heap.size + 1) 0 ⟨#[]⟩ .nilIface
  flt : Flt wr (w.heap.size + 2) x y z

theorem St.grown {w wr w' : World} {q : Value} {x : Int} {y : ByteArray} {z : Value} (h : St w wr q x y z) (b : Below wr.heap.size wr w') : St w w' q x y z := by
  have := h.sz
  exact ⟨h.bel.trans (b.mono h.bel.size), Nat.lt_of_lt_of_le h.sz b.size, (b.cell (p := ⟨w.heap.size, 0, none⟩) (by simp only; omega)).trans h.err, (b.frozen (p := ⟨w.heap.size, 0, none⟩) (by simp only; omega)).trans h.frz,
    h.ans.stays b (by omega), h.flt.stays b (by omega)⟩
theorem St.found {w wr : World} {q : Value} {x : Int} {y : ByteArray} {z : Value} (h : St w wr q x y z) (x' : Int) (y' : ByteArray) (z' : Value) : St w (set3 (w.heap.size + 2) x' y' z' wr) q x' y' z' := by
  have e : ∀ k, k ≠ w.heap.size + 2 → (set3 (w.heap.size + 2) x' y' z' wr).heap[k]? = wr.heap[k]? := fun k hk => set3_other k hk
  have b : Below (w.heap.size + 2) wr (set3 (w.heap.size + 2) x' y' z' wr) := Below.set3 (Below.refl _ _) (Nat.le_refl _) _ _ _
  exact ⟨h.bel.trans (b.mono (by omega)), by rw [set3_size]; exact h.sz, (b.cell (p := ⟨w.heap.size, 0, none⟩) (by simp)).trans h.err, (b.frozen (p := ⟨w.heap.size, 0, none⟩) (by simp)).trans h.frz,
    h.ans.stays b (by omega), h.flt.set _ _ _⟩
theorem St.own {w wr : World} {q : Value} {x : Int} {y : ByteArray} {z : Value} (h : St w wr q x y z) {k : Nat} (hk : w.heap.size + 3 ≤ k) (v : Value) : St w (wr.setCell ⟨k, 0, none⟩ v) q x y z := by
  have b : Below (w.heap.size + 3) wr (wr.setCell ⟨k, 0, none⟩ v) := (Below.refl _ _).setCell (p := ⟨k, 0, none⟩) hk v
  exact ⟨h.bel.trans (b.mono (by omega)), Nat.lt_of_lt_of_le h.sz b.size, (b.cell (p := ⟨w.heap.size, 0, none⟩) (by simp only; omega)).trans h.err, (b.frozen (p := ⟨w.heap.size, 0, none⟩) (by simp only; omega)).trans h.frz,
    h.ans.stays b (by omega), h.flt.stays b (by omega)⟩
theorem flt_other {w : World} {b : Nat} {x : Int} {y : ByteArray} {z : Value} (h : Flt w b x y z) {a : Addr} (ha : a.block ≠ b) (v : Value) : Flt (w.setCell a v) b x y z :=
  have e : (w.setCell a v).heap[b]? = w.heap[b]? := Below.heap_setCell _ _ _ _ (fun e => ha e.symm)
  ⟨(World.cell?_of_block (a := ⟨b, 0, none⟩) e).trans h.c0, (World.cell?_of_block (a := ⟨b, 1, none⟩) e).trans h.c1, (World.cell?_of_block (a := ⟨b, 2, none⟩) e).trans h.c2,
   (World.frozen?_of_block (a := ⟨b, 0, none⟩) e).trans h.f0, (World.frozen?_of_block (a := ⟨b, 1, none⟩) e).trans h.f1, (World.frozen?_of_block (a := ⟨b, 2, none⟩) e).trans h.f2⟩
theorem St.next {w wr : World} {q : Value} {x : Int} {y : ByteArray} {z : Value} (h : St w wr q x y z) (q' : Value) : St w (wr.setCell ⟨w.heap.size, 0, none⟩ q') q' x y z := by
  exact ⟨h.bel.setCell (p := ⟨w.heap.size, 0, none⟩) (Nat.le_refl _) _, by simpa [World.setCell] using h.sz, World.cell?_setCell_same _ _ _ h.err, (World.frozen?_setCell _ _ _ _).trans h.frz,
    flt_other h.ans (by simp) _, flt_other h.flt (by simp) _⟩

/-- One question: is there a Fault? -/
theorem ask_hit (L : Int) (S : ByteArray) (z : Value) (hz : z.oneCell' = true) (x0 : Int) (y0 : ByteArray) (z0 : Value) (w wr : World) (he : ET w)
    (h : St w wr (.iface 74 (.agg #[.int .i64 L, .string S, z])) x0 y0 z0) :
    Calls Tryz.prog 31 #[.func (.func 73) #[] #[.pointer (some ⟨w.heap.size, 0, none⟩), .pointer (some ⟨w.heap.size + 2, 0, none⟩)]] wr fun e w' => e = .returned (.bool true) ∧ St w w' (.iface 74 (.agg #[.int .i64 L, .string S, z])) L S z := by
  have bY : Below wr.heap.size wr (wr.alloc (.cells #[.bool false] 4)) := (Below.refl _ _).alloc (Nat.le_refl _) _
  have hY := h.grown bY
  have sY := h.sz
  have c1 := near1_hit L S z hz ⟨w.heap.size, 0, none⟩ (w.heap.size + 2) x0 y0 z0 (wr.alloc (.cells #[.bool false] 4)) (he.stays hY.bel) hY.err hY.flt
  have A := answers_ok 73 (enters_of Tryz.func73 (by kernel_rfl) rfl) (.pointer (some ⟨w.heap.size, 0, none⟩)) (.pointer (some ⟨w.heap.size + 2, 0, none⟩)) true
    (fun w' => ∃ w1, Below (wr.alloc (.cells #[.bool false] 4)).heap.size (wr.alloc (.cells #[.bool false] 4)) w1 ∧ w' = set3 (w.heap.size + 2) L S z w1) wr c1 (by
      rintro w2 ⟨w1, h1, rfl⟩
      have e : (set3 (w.heap.size + 2) L S z w1).heap[wr.heap.size]? = (wr.alloc (.cells #[.bool false] 4)).heap[wr.heap.size]? :=
        (set3_other _ (by omega)).trans (h1.block _ (by simp))
      exact ⟨(World.cell?_of_block (a := ⟨wr.heap.size, 0, none⟩) e).trans (by simp), (World.frozen?_of_block (a := ⟨wr.heap.size, 0, none⟩) e).trans (by simp)⟩)
  refine A.mono ?_
  rintro e w' ⟨rfl, w2, ⟨w1, h1, rfl⟩, rfl⟩
  exact ⟨rfl, ((hY.grown h1).found L S z).own (by omega) _⟩
theorem ask_miss (B : Base) (x0 : Int) (y0 : ByteArray) (z0 : Value) (w wr : World) (he : ET w) (h : St w wr B.val x0 y0 z0) :
    Calls Tryz.prog 31 #[.func (.func 73) #[] #[.pointer (some ⟨w.heap.size, 0, none⟩), .pointer (some ⟨w.heap.size + 2, 0, none⟩)]] wr fun e w' => e = .returned (.bool false) ∧ St w w' B.val x0 y0 z0 := by
  have bY : Below wr.heap.size wr (wr.alloc (.cells #[.bool false] 4)) := (Below.refl _ _).alloc (Nat.le_refl _) _
  have hY := h.grown bY
  have sY := h.sz
  have c1 := near1_miss B ⟨w.heap.size, 0, none⟩ (w.heap.size + 2) x0 y0 z0 (wr.alloc (.cells #[.bool false] 4)) (he.stays hY.bel) hY.err hY.flt
  have A := answers_ok 73 (enters_of Tryz.func73 (by kernel_rfl) rfl) (.pointer (some ⟨w.heap.size, 0, none⟩)) (.pointer (some ⟨w.heap.size + 2, 0, none⟩)) false
    (fun w' => Below (wr.alloc (.cells #[.bool false] 4)).heap.size (wr.alloc (.cells #[.bool false] 4)) w') wr c1 (by
      intro w1 h1
      have e := h1.block wr.heap.size (by simp)
      exact ⟨(World.cell?_of_block (a := ⟨wr.heap.size, 0, none⟩) e).trans (by simp), (World.frozen?_of_block (a := ⟨wr.heap.size, 0, none⟩) e).trans (by simp)⟩)
  refine A.mono ?_
  rintro e w' ⟨rfl, w1, h1, rfl⟩
  exact ⟨rfl, (hY.grown h1).own (by omega) _⟩

end Go.Proofs.YthkdbphgiobcdaaGreatDoor

namespace Go.Proofs.YthkdbphgiobcdaaGreatDoor
open Go.RowKit Go.Extern.Stop Go.Stop Go.Extern

theorem near_no {p : Int → ByteArray → Bool} {l : Lk} {ls : List Lk} (h : p l.line l.what = false) : near p (l :: ls) = near p ls := by
  unfold near; rw [h]; simp only [Bool.false_eq_true, if_false]; cases ls <;> rfl
theorem near_yes {p : Int → ByteArray → Bool} {l : Lk} {ls : List Lk} (h : p l.line l.what = true) : near p (l :: ls) = l := by
  unfold near; rw [h]; simp only [if_true]

theorem flt_new (w : World) (x : Int) (y : ByteArray) (z : Value) : Flt (w.alloc (.cells #[.int .i64 x, .string y, z] 74)) w.heap.size x y z := by
  refine ⟨?_, ?_, ?_, ?_, ?_, ?_⟩ <;> simp
theorem st_new (w : World) (q : Value) : St w (((w.alloc (.cells #[q] 33)).alloc (.cells #[.int .i64 0, .string ⟨#[]⟩, .nilIface] 74)).alloc (.cells #[.int .i64 0, .string ⟨#[]⟩, .nilIface] 74)) q 0 ⟨#[]⟩ .nilIface := by
  have bA : Below w.heap.size w (w.alloc (.cells #[q] 33)) := (Below.refl _ _).alloc (Nat.le_refl _) _
  have cA : (w.alloc (.cells #[q] 33)).cell? ⟨w.heap.size, 0, none⟩ = some q := by simp
  have fA : (w.alloc (.cells #[q] 33)).frozen? ⟨w.heap.size, 0, none⟩ = false := by simp
  have sA : (w.alloc (.cells #[q] 33)).heap.size = w.heap.size + 1 := by simp
  generalize w.alloc (.cells #[q] 33) = wA at *
  have bB : Below wA.heap.size wA (wA.alloc (.cells #[.int .i64 0, .string ⟨#[]⟩, .nilIface] 74)) := (Below.refl _ _).alloc (Nat.le_refl _) _
  have FB := flt_new wA 0 ⟨#[]⟩ .nilIface
  have sB : (wA.alloc (.cells #[.int .i64 0, .string ⟨#[]⟩, .nilIface] 74)).heap.size = wA.heap.size + 1 := by simp
  generalize wA.alloc (.cells #[.int .i64 0, .string ⟨#[]⟩, .nilIface] 74) = wB at *
  have bC : Below wB.heap.size wB (wB.alloc (.cells #[.int .i64 0, .string ⟨#[]⟩, .nilIface] 74)) := (Below.refl _ _).alloc (Nat.le_refl _) _
  have FC := flt_new wB 0 ⟨#[]⟩ .nilIface
  have sC : (wB.alloc (.cells #[.int .i64 0, .string ⟨#[]⟩, .nilIface] 74)).heap.size = wB.heap.size + 1 := by simp
  generalize wB.alloc (.cells #[.int .i64 0, .string ⟨#[]⟩, .nilIface] 74) = wC at *
  have FB' := FB.stays bC (by omega)
  rw [sA] at FB'
  rw [sB, sA] at FC
  exact ⟨bA.trans ((bB.mono (by omega)).trans (bC.mono (by omega))), by omega,
    (bC.cell (p := ⟨w.heap.size, 0, none⟩) (by simp only; omega)).trans ((bB.cell (p := ⟨w.heap.size, 0, none⟩) (by simp only; omega)).trans cA),
    (bC.frozen (p := ⟨w.heap.size, 0, none⟩) (by simp only; omega)).trans ((bB.frozen (p := ⟨w.heap.size, 0, none⟩) (by simp only; omega)).trans fA), FB', FC⟩

theorem res26 (tmps : Array Value) (w : World) (b : Nat) (x : Int) (y : ByteArray) (z : Value) (ht : tmps[4]?.getD undef = .pointer (some ⟨b, 0, none⟩)) (h : Flt w b x y z) :
    (results Tryz.f34 tmps).run Tryz.prog w = .ok (.agg #[.int .i64 x, .string y, z]) w := by
  obtain ⟨c0, c1, c2, _, _, _⟩ := h
  simp [results, Tryz.results34, go_sem, ht, c0, c1, c2]

set_option maxHeartbeats 4000000 in
theorem nearest_ok (g : Nat) (p : Int → ByteArray → Bool) (hg : Says g p) (B : Base) (ls : List Lk) (w : World) (he : ET w) :
    Calls Tryz.prog 34 #[val B ls, .func (.func g) #[] #[]] w fun e w' => (∃ z, e = .returned (.agg #[.int .i64 (near p ls).line, .string (near p ls).what, z])) ∧ Below w.heap.size w w' := by
  have hmf : ∀ (fn : Fn) (first cap : Array Value) (w : World), (Instr.makeFunc fn first cap).run Tryz.prog w = .ok (.func fn first cap) w := fun _ _ _ _ => rfl
  obtain ⟨eg0, SP⟩ := hg
  have eg : ∀ args w, (callFunc g args).run Tryz.prog w = .ok (.enter g args) w := eg0
  clear eg0
  have ho := val_one B ls
  obtain ⟨q, hq⟩ : ∃ q, q = val B ls := ⟨_, rfl⟩
  have HQ : Hd (q = val B ls) := ⟨hq⟩
  rw [← hq] at ho ⊢
  clear hq
  obtain ⟨w1, hw1⟩ : ∃ w1, w1 = ((w.alloc (.cells #[q] 33)).alloc (.cells #[.int .i64 0, .string ⟨#[]⟩, .nilIface] 74)).alloc (.cells #[.int .i64 0, .string ⟨#[]⟩, .nilIface] 74) := ⟨_, rfl⟩
  have S1 : Hd (St w w1 q 0 ⟨#[]⟩ .nilIface) := by rw [hw1]; exact ⟨st_new w q⟩
  have HE : Hd (ET w) := ⟨he⟩
  clear he
  go_enter Tryz.func34, Tryz.ntmps34
  go_wp2
  rw [← hw1]
  clear hw1
  go_loopg [] ls.length (fun k wr => ∃ (ls' : List Lk) (x : Int) (y : ByteArray) (z : Value), ls'.length ≤ k ∧ near p ls' = near p ls ∧ St w wr (val B ls') x y z)
  case atStart => exact ⟨ls, 0, _, _, Nat.le_refl _, rfl, by rw [← HQ.out]; exact S1.out⟩
  case round =>
    obtain ⟨ls', x, y, z, hl, hn, hS⟩ := hrel
    clear S1 HQ ho
    cases ls' with
    | nil =>
      have C := ask_miss B x y z w wr HE.out hS
      have N : Hd (near p ls = ⟨0, ⟨#[]⟩⟩) := ⟨hn.symm⟩
      clear hn hS
      go_wp2_with (go_at_call 31; refine C.mono ?_; rintro e w2 ⟨rfl, h2⟩; have H2 : Hd (St w w2 B.val x y z) := ⟨h2⟩; obtain ⟨a0, a1, a2, a3, a4, a5⟩ := h2.ans; clear h2)
      refine bodyPost_ret (v := .agg #[.int .i64 0, .string ⟨#[]⟩, .nilIface]) (res26 _ _ (w.heap.size + 1) 0 ⟨#[]⟩ .nilIface rfl (H2.out.ans.set 0 ⟨#[]⟩ .nilIface)) rfl ⟨⟨.nilIface, ?_⟩, Below.set3 H2.out.bel (Nat.le_succ _) 0 ⟨#[]⟩ .nilIface⟩
      rw [N.out]
    | cons l ls' =>
      obtain ⟨L, S⟩ := l
      have hz := val_one B ls'
      have C := ask_hit L S (val B ls') hz x y z w wr HE.out hS
      have D := fun w => SP L S (val B ls') w hz
      have HL : Hd (ls'.length + 1 ≤ gk) := ⟨hl⟩
      clear hS hl
      cases hp : p L S with
      | true =>
        have N : Hd (near p ls = ⟨L, S⟩) := ⟨hn.symm.trans (near_yes hp)⟩
        rw [hp] at D
        clear hn hp
        generalize val B ls' = zz at *
        have hst := fun (w : World) (a : Addr) => run_store Tryz.prog w a zz .plain hz
        go_wp2_with (first
          | (go_at_call 31; refine C.mono ?_; rintro e w2 ⟨rfl, h2⟩; have H2 : Hd (St w w2 (.iface 74 (.agg #[.int .i64 L, .string S, zz])) L S zz) := ⟨h2⟩; obtain ⟨a0, a1, a2, a3, a4, a5⟩ := h2.flt; clear h2)
          | (go_at_fn g; refine (D _).mono ?_; rintro e w3 ⟨rfl, h3⟩; have H3 : Hd (St w w3 (.iface 74 (.agg #[.int .i64 L, .string S, zz])) L S zz) := ⟨H2.out.grown h3⟩; clear a0 a1 a2 a3 a4 a5 h3; obtain ⟨a0, a1, a2, a3, a4, a5⟩ := H3.out.flt; obtain ⟨b0, b1, b2, b3, b4, b5⟩ := H3.out.ans))
        refine bodyPost_ret (v := .agg #[.int .i64 L, .string S, zz]) (res26 _ _ (w.heap.size + 1) L S zz rfl (H3.out.ans.set L S zz)) rfl ⟨⟨zz, ?_⟩, Below.set3 H3.out.bel (Nat.le_succ _) L S zz⟩
        rw [N.out]
      | false =>
        have N : Hd (near p ls' = near p ls) := ⟨(near_no hp).symm.trans hn⟩
        rw [hp] at D
        clear hn hp
        obtain ⟨zz, hzz⟩ : ∃ zz, zz = val B ls' := ⟨_, rfl⟩
        have ZZ : Hd (zz = val B ls') := ⟨hzz⟩
        rw [← hzz] at hz C D
        clear hzz
        have hsc : ∀ W : World, W.cell? ⟨w.heap.size, 0, none⟩ = some (.iface 74 (.agg #[.int .i64 L, .string S, zz])) → W.frozen? ⟨w.heap.size, 0, none⟩ = false →
            (storeCells ⟨w.heap.size, 0, none⟩ [zz]).run Tryz.prog W = .ok () (W.setCell ⟨w.heap.size, 0, none⟩ zz) := fun W h1 h2 => by
          have := store_ok ⟨w.heap.size, 0, none⟩ zz _ W hz h1 h2
          simp [storeCells, Addr.add, this]
        go_wp2_with (first
          | (go_at_call 31; refine C.mono ?_; rintro e w2 ⟨rfl, h2⟩; have H2 : Hd (St w w2 (.iface 74 (.agg #[.int .i64 L, .string S, zz])) L S zz) := ⟨h2⟩; obtain ⟨a0, a1, a2, a3, a4, a5⟩ := h2.flt; clear h2)
          | (go_at_fn g; refine (D _).mono ?_; rintro e w3 ⟨rfl, h3⟩; have H3 : Hd (St w w3 (.iface 74 (.agg #[.int .i64 L, .string S, zz])) L S zz) := ⟨H2.out.grown h3⟩; clear a0 a1 a2 a3 a4 a5 h3; obtain ⟨a0, a1, a2, a3, a4, a5⟩ := H3.out.flt; have b0 := H3.out.err; have b1 := H3.out.frz))
        rw [hsc w3 b0 b1]
        go_wp2
        obtain ⟨k, rfl⟩ : ∃ k, gk = k + 1 := ⟨gk - 1, by have := HL.out; omega⟩
        go_roundg k
        case rel => exact ⟨ls', L, S, zz, by have := HL.out; omega, N.out, by rw [← ZZ.out]; exact H3.out.next zz⟩
        case measure => exact Nat.lt_succ_self _

theorem field0 (x : Int) (y : ByteArray) (z : Value) (w : World) : (Instr.field 74 (.agg #[.int .i64 x, .string y, z]) 0).run Tryz.prog w = .ok (.int .i64 x) w := by kernel_rfl
end Go.Proofs.YthkdbphgiobcdaaGreatDoor

namespace Go.Proofs.YthkdbphgiobcdaaGreatDoor
open Go.RowKit Go.Extern.Stop Go.Stop Go.Extern

theorem says35 : Says 35 (fun _ y => !y.toList.isEmpty) := by
  refine ⟨enters_of Tryz.func35 (by kernel_rfl) rfl, fun x y z w hz => ?_⟩
  have b : Hd (Below w.heap.size w (w.alloc (.cells #[.int .i64 x, .string y, z] 74))) := ⟨(Below.refl _ _).alloc (Nat.le_refl _) _⟩
  go_enter Tryz.func35, Tryz.ntmps35
  go_wp2
  go_ret
  exact ⟨rfl, b.out⟩
theorem field1 (x : Int) (y : ByteArray) (z : Value) (w : World) : (Instr.field 74 (.agg #[.int .i64 x, .string y, z]) 1).run Tryz.prog w = .ok (.string y) w := by kernel_rfl
theorem what_ok (B : Base) (ls : List Lk) (w : World) (he : ET w) :
    Calls Tryz.prog 13 #[val B ls] w fun e w' => e = .returned (.string (near (fun _ y => !y.toList.isEmpty) ls).what) ∧ Below w.heap.size w w' := by
  have fd := field1
  have C := nearest_ok 35 _ says35 B ls w he
  clear he
  generalize near (fun _ y => !y.toList.isEmpty) ls = l at *
  generalize val B ls = q at *
  obtain ⟨L, S⟩ := l
  simp only at C ⊢
  go_enter Tryz.func13, Tryz.ntmps13
  go_wp2_with (go_at_call 34; refine C.mono ?_; rintro e w' ⟨⟨z, rfl⟩, hb⟩)
  go_ret
  exact ⟨rfl, hb⟩
theorem of_ok (S : ByteArray) (n : Int) (w : World) :
    Calls Tryz.prog 25 #[.string S, .iface 38 (.int .i64 n)] w fun e w' => e = .returned (val (.inl n) [⟨0, S⟩]) ∧ w' = w := by
  have hq : val (.inl n) [⟨0, S⟩] = .iface 74 (.agg #[.int .i64 0, .string S, .iface 38 (.int .i64 n)]) := rfl
  rw [hq]
  clear hq
  go_enter Tryz.func25, Tryz.ntmps25
  go_wp2
  go_ret
  exact ⟨rfl, rfl⟩

end Go.Proofs.YthkdbphgiobcdaaGreatDoor
