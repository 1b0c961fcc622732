/-
  'Code', 'Is', 'At' and 'Of' of the program, for every chain of Faults around a number or nothing. Condition of 'Code': errorType holds what its text lays.
-/
import Derived.Test.YtlkoaldekmdcoaaGreatDoorFWalkD
namespace Go.Proofs.YtlkoaldekmdcoaaGreatDoor
open Go.RowKit Go.Extern.Stop Go.Stop Go.Extern

theorem put_other (B : Base) (t : Addr) (w : World) (k : Nat) (h : k ≠ t.block) : (B.put t w).heap[k]? = w.heap[k]? := by
  rcases B with n | ⟨⟩
  · exact Below.heap_setCell _ _ _ _ h
  · rfl
theorem put_below {B : Base} {t : Addr} {w w1 : World} {k : Nat} (h : Below k w w1) (ht : k ≤ t.block) : Below k w (B.put t w1) := by
  rcases B with n | ⟨⟩
  · exact h.setCell ht _
  · exact h

theorem code1_ok (B : Base) (ls : List Lk) (pe t : Addr) (old : Value) (w : World) (he : ET w) (hp : w.cell? pe = some (val B ls)) (ht : w.cell? t = some old) (hf : w.frozen? t = false)
    (T : TypeId) (u : Value) (hv : val B ls = .iface T u) :
    Calls Tryz.prog 32 #[.pointer (some pe), .pointer (some t)] w fun e w' => e = .returned (.bool B.isNum) ∧ ∃ w1, Below w.heap.size w w1 ∧ w' = B.put t w1 := by
  have C := as_num B ls t old w he ht hf T u hv
  rw [hv] at hp C
  clear he ht hf hv
  go_enter Tryz.func32, Tryz.ntmps32
  go_wp2_with (go_at_call 33; refine C.mono ?_; rintro e w' ⟨rfl, w1, hb, rfl⟩)
  go_ret
  exact ⟨rfl, w1, hb, rfl⟩

/-- The number that a chain tells. -/
def Base.code : Base → Int
  | .inl n => n
  | _ => 1
def codeOf (B : Base) : List Lk → Int
  | [] => match B with
    | .inr _ => 0
    | _ => B.code
  | _ => B.code

theorem code_nil (w : World) : Calls Tryz.prog 12 #[.nilIface] w fun e w' => e = .returned (.int .i64 0) ∧ Below w.heap.size w w' := by
  have b : Hd (Below w.heap.size w (w.alloc (.cells #[.nilIface] 31))) := ⟨(Below.refl _ _).alloc (Nat.le_refl _) _⟩
  go_enter Tryz.func12, Tryz.ntmps12
  go_wp2
  go_ret
  exact ⟨rfl, b.out⟩

theorem ans_step {w wB w1 : World} {n : Nat} {t : Addr} {B : Base} (hB : Below w.heap.size w wB) (h1 : Below (wB.alloc (.cells #[.bool false] 4)).heap.size (wB.alloc (.cells #[.bool false] 4)) w1)
    (hn : n = w.heap.size) (ht : n ≤ t.block) (b : Bool) : Below n w ((B.put t w1).setCell ⟨wB.heap.size, 0, none⟩ (.bool b)) := by
  subst hn
  have h2 : Below w.heap.size w (wB.alloc (.cells #[.bool false] 4)) := hB.alloc hB.size _
  exact (put_below (h2.trans (h1.mono (by have := h2.size; omega))) ht).setCell (p := ⟨wB.heap.size, 0, none⟩) hB.size _

theorem code_some (B : Base) (ls : List Lk) (w : World) (he : ET w) (T : TypeId) (u : Value) (hv : val B ls = .iface T u) :
    Calls Tryz.prog 12 #[val B ls] w fun e w' => e = .returned (.int .i64 B.code) ∧ Below w.heap.size w w' := by
  have hmf : ∀ (fn : Fn) (first cap : Array Value) (w : World), (Instr.makeFunc fn first cap).run Tryz.prog w = .ok (.func fn first cap) w := fun _ _ _ _ => rfl
  obtain ⟨wB, hwB⟩ : ∃ wB, wB = (w.alloc (.cells #[val B ls] 31)).alloc (.cells #[.int .i64 0] 35) := ⟨_, rfl⟩
  have bB : Below w.heap.size w wB := by rw [hwB]; exact ((Below.refl _ _).alloc (Nat.le_refl _) _).alloc (by simp) _
  have sB : wB.heap.size = w.heap.size + 2 := by rw [hwB]; simp
  have bY : Below wB.heap.size wB (wB.alloc (.cells #[.bool false] 4)) := (Below.refl _ _).alloc (Nat.le_refl _) _
  have c1 := code1_ok B ls ⟨w.heap.size, 0, none⟩ ⟨w.heap.size + 1, 0, none⟩ (.int .i64 0) (wB.alloc (.cells #[.bool false] 4)) ((he.stays bB).stays bY)
    ((bY.cell (p := ⟨w.heap.size, 0, none⟩) (by simp only; omega)).trans (by rw [hwB]; simp)) ((bY.cell (p := ⟨w.heap.size + 1, 0, none⟩) (by simp only; omega)).trans (by rw [hwB]; simp))
    ((bY.frozen (p := ⟨w.heap.size + 1, 0, none⟩) (by simp only; omega)).trans (by rw [hwB]; simp)) T u hv
  have A := answers_ok 32 (enters_of Tryz.func32 (by kernel_rfl) rfl) (.pointer (some ⟨w.heap.size, 0, none⟩)) (.pointer (some ⟨w.heap.size + 1, 0, none⟩)) B.isNum
    (fun w' => ∃ w1, Below (wB.alloc (.cells #[.bool false] 4)).heap.size (wB.alloc (.cells #[.bool false] 4)) w1 ∧ w' = B.put ⟨w.heap.size + 1, 0, none⟩ w1) wB c1 (by
      rintro w2 ⟨w1, h1, rfl⟩
      have e : (B.put ⟨w.heap.size + 1, 0, none⟩ w1).heap[wB.heap.size]? = (wB.alloc (.cells #[.bool false] 4)).heap[wB.heap.size]? :=
        (put_other _ _ _ _ (by simp only; omega)).trans (h1.block _ (by simp))
      exact ⟨(World.cell?_of_block (a := ⟨wB.heap.size, 0, none⟩) e).trans (by simp), (World.frozen?_of_block (a := ⟨wB.heap.size, 0, none⟩) e).trans (by simp)⟩)
  have A' : Calls Tryz.prog 31 #[.func (.func 32) #[] #[.pointer (some ⟨w.heap.size, 0, none⟩), .pointer (some ⟨w.heap.size + 1, 0, none⟩)]] wB fun e w' => e = .returned (.bool B.isNum) ∧ Below w.heap.size w w' ∧ ∀ n, B = (.inl n) → w'.cell? ⟨w.heap.size + 1, 0, none⟩ = some (.int .i64 n) := by
    refine A.mono ?_
    rintro e w' ⟨rfl, w2, ⟨w1, h1, rfl⟩, rfl⟩
    refine ⟨rfl, ans_step bB h1 rfl (by simp) _, ?_⟩
    rintro n rfl
    have e0 : w1.cell? ⟨w.heap.size + 1, 0, none⟩ = some (.int .i64 0) := (h1.cell (p := ⟨w.heap.size + 1, 0, none⟩) (by simp [sB])).trans ((bY.cell (p := ⟨w.heap.size + 1, 0, none⟩) (by simp only; omega)).trans (by rw [hwB]; simp))
    rw [World.cell?_setCell_other]
    · exact World.cell?_setCell_same _ _ _ e0
    · intro e; have := (Addr.mk.inj e).1; omega
  clear A c1 bY sB bB he
  subst hwB
  rw [hv] at A' ⊢
  clear hv
  rcases B with n | ⟨⟩
  ·
    simp only [Base.isNum] at A'
    go_enter Tryz.func12, Tryz.ntmps12
    go_wp2_with (go_at_call 31; refine A'.mono ?_; rintro e w' ⟨rfl, hb, hn⟩; have hn' := hn n rfl; clear hn; have HB : Hd (Below w.heap.size w w') := ⟨hb⟩; clear hb)
    go_ret
    exact ⟨rfl, HB.out⟩
  ·
    simp only [Base.isNum] at A'
    go_enter Tryz.func12, Tryz.ntmps12
    go_wp2_with (go_at_call 31; refine A'.mono ?_; rintro e w' ⟨rfl, hb, hn⟩; clear hn; have HB : Hd (Below w.heap.size w w') := ⟨hb⟩; clear hb)
    go_ret
    exact ⟨rfl, HB.out⟩

theorem code_ok (B : Base) (ls : List Lk) (w : World) (he : ET w) :
    Calls Tryz.prog 12 #[val B ls] w fun e w' => e = .returned (.int .i64 (codeOf B ls)) ∧ Below w.heap.size w w' := by
  rcases val_is B ls with ⟨rfl, rfl⟩ | ⟨T, u, hv⟩
  · exact code_nil w
  · have h := code_some B ls w he T u hv
    cases ls with
    | nil =>
      rcases B with n | ⟨⟩
      · exact h
      · cases hv
    | cons l ls => exact h

end Go.Proofs.YtlkoaldekmdcoaaGreatDoor
