/-
  What 'New', 'Len', 'find', 'Peek' and 'Get' of the program answer, of a heap that lies in memory, and of nil. Conditions: as each theorem says them.
-/
import Derived.Test.YthamaiibknmeeaaWalkC
namespace Go.Proofs.Ythamaiibknmeeaa
open Go.RowKit Go.Lib Go.Sort Go.Maps

/-- A heap: the struct in block hb, the places in block mb, the slice at sa (nil as long as there was no item). -/
structure HS (w : World) (hb mb : Nat) (S : Nat → Prop) (sa : Option Addr) (n cap : Nat) (f : Nat → Int × Int) (c : Nat) (pos : Int → Option Nat) : Prop where
  hlt : hb < w.heap.size
  c0 : w.cell? ⟨hb, 0, none⟩ = some (.slice sa n cap)
  c1 : w.cell? ⟨hb, 1, none⟩ = some (.map (some mb))
  f0 : w.frozen? ⟨hb, 0, none⟩ = false
  map : MapIs w mb c pos
  ne2 : hb ≠ mb
  items : (sa = none ∧ n = 0 ∧ cap = 0) ∨ ∃ g, sa = some ⟨g, 0, none⟩ ∧ S g ∧ Arr w g n cap f ∧ hb ≠ g ∧ g ≠ mb

section
variable {w w' : World} {hb mb n cap : Nat} {S : Nat → Prop} {sa : Option Addr} {f : Nat → Int × Int} {c : Nat} {pos : Int → Option Nat} {M : Int × Int → Prop}
theorem HS.hm (h : HS w hb mb S sa n cap f c pos) (hn : 0 < n) : ∃ g, sa = some ⟨g, 0, none⟩ ∧ S g ∧ HM w hb mb g n cap f c pos := by
  rcases h.items with ⟨_, h0, _⟩ | ⟨g, h1, h2, h3, h4, h5⟩
  · omega
  · exact ⟨g, h1, h2, h.hlt, h1 ▸ h.c0, h.c1, h.f0, h3, h.map, h4, h.ne2, h5⟩
theorem HM.hs {g : Nat} (h : HM w hb mb g n cap f c pos) (hS : S g) : HS w hb mb S (some ⟨g, 0, none⟩) n cap f c pos := ⟨h.hlt, h.c0, h.c1, h.f0, h.map, h.ne2, .inr ⟨g, rfl, hS, h.arr, h.ne1, h.ne3⟩⟩
theorem HS.kept {T : Nat → Prop} (h : HS w hb mb S sa n cap f c pos) (k : Kept T w w') (h1 : ¬ T hb) (h2 : ¬ T mb) (h3 : ∀ g, S g → ¬ T g) : HS w' hb mb S sa n cap f c pos :=
  ⟨Nat.lt_of_lt_of_le h.hlt k.size, (k.cell h.hlt h1).trans h.c0, (k.cell h.hlt h1).trans h.c1, (k.frozen h.hlt h1).trans h.f0, h.map.same (k.block mb h.map.lt h2), h.ne2,
    h.items.imp id fun ⟨g, a1, a2, a3, a4⟩ => ⟨g, a1, a2, a3.same (k.block g a3.lt (h3 g a2)), a4⟩⟩

/-- The heap in block hb, whose blocks are among those of S, has just the n items that M says. -/
def HeapIs (w : World) (hb : Nat) (S : Nat → Prop) (M : Int × Int → Prop) (n : Nat) : Prop :=
  (∀ y, M y → Wf y) ∧ n ≤ 4096 ∧ (∀ k, S k → k < w.heap.size) ∧ S hb ∧ ∃ mb sa cap f pos, S mb ∧ HS w hb mb S sa n cap f n pos ∧ HeapOK f n M pos

theorem HeapIs.kept {T : Nat → Prop} (h : HeapIs w hb S M n) (k : Kept T w w') (ht : ∀ b, S b → ¬ T b) : HeapIs w' hb S M n := by
  obtain ⟨h1, h2, h3, h4, mb, sa, cap, f, pos, h5, h6, h7⟩ := h
  exact ⟨h1, h2, fun b hb => Nat.lt_of_lt_of_le (h3 b hb) k.size, h4, mb, sa, cap, f, pos, h5, h6.kept k (ht _ h4) (ht _ h5) ht, h7⟩
theorem HeapIs.below (h : HeapIs w hb S M n) (k : Below w.heap.size w w') : HeapIs w' hb S M n := h.kept (Kept.of_below k (fun _ => False)) (fun _ _ => id)
theorem HeapIs.congr {M' : Int × Int → Prop} (h : HeapIs w hb S M n) (e : ∀ y, M' y ↔ M y) : HeapIs w hb S M' n := by
  obtain ⟨h1, h2, h3, h4, mb, sa, cap, f, pos, h5, h6, h7⟩ := h
  exact ⟨fun y hy => h1 y ((e y).1 hy), h2, h3, h4, mb, sa, cap, f, pos, h5, h6, h7.congr e⟩
theorem HeapIs.ids (h : HeapIs w hb S M n) {y z : Int × Int} (hy : M y) (hz : M z) (e : y.2 = z.2) : y = z := by
  obtain ⟨_, _, _, _, mb, sa, cap, f, pos, _, _, h7⟩ := h
  exact h7.ids hy hz e
theorem HeapIs.empty (h : HeapIs w hb S M 0) (y : Int × Int) : ¬ M y := by
  obtain ⟨_, _, _, _, mb, sa, cap, f, pos, _, _, h7⟩ := h
  intro hy
  obtain ⟨j, h, _⟩ := (h7.mem y).1 hy
  omega
end

theorem new_any (w : World) : Calls Try.prog 22 #[] w fun e w' => ∃ hb S, e = .returned (.pointer (some ⟨hb, 0, none⟩)) ∧ HeapIs w' hb S (fun _ => False) 0 ∧ (∀ k, S k → w.heap.size ≤ k) ∧ Below w.heap.size w w' := by
  have hmm := @run_makeMap Try.prog
  have M0 := MapIs.made w
  go_enter Try.func22, Try.ntmps22
  go_wp2
  go_ret
  obtain ⟨W, hW⟩ : ∃ W, W = (w.alloc (Obj.map #[] 0)).alloc (Obj.cells #[Value.slice none 0 0, Value.map (some w.heap.size)] 70) := ⟨_, rfl⟩
  have b1 : Below (w.alloc (Obj.map #[] 0)).heap.size (w.alloc (Obj.map #[] 0)) W := by rw [hW]; exact (Below.refl _ _).alloc (Nat.le_refl _) _
  have b2 : Below w.heap.size w W := by rw [hW]; exact ((Below.refl _ _).alloc (Nat.le_refl _) _).alloc (by simp) _
  have d0 : W.cell? ⟨w.heap.size + 1, 0, none⟩ = some (.slice none 0 0) := by rw [hW]; simp [go_sem]
  have d1 : W.cell? ⟨w.heap.size + 1, 1, none⟩ = some (.map (some w.heap.size)) := by rw [hW]; simp [go_sem]
  have d2 : W.frozen? ⟨w.heap.size + 1, 0, none⟩ = false := by rw [hW]; simp [go_sem]
  have d3 : W.heap.size = w.heap.size + 2 := by rw [hW]; simp
  rw [← hW]
  refine ⟨w.heap.size + 1, fun k => k = w.heap.size + 1 ∨ k = w.heap.size, rfl, ⟨fun _ h => h.elim, by omega, fun k hk => by omega, .inl rfl, w.heap.size, none, 0, fun _ => (0, 0), fun _ => none, .inr rfl, ⟨by omega, d0, d1, d2, M0.same (b1.block _ (by simp)), by omega, .inl ⟨rfl, rfl, rfl⟩⟩, HeapOK.empty⟩, fun k hk => by omega, b2⟩

theorem len_any {w : World} {hb : Nat} {S : Nat → Prop} {M : Int × Int → Prop} {n : Nat} (h : HeapIs w hb S M n) : Calls Try.prog 30 #[.pointer (some ⟨hb, 0, none⟩)] w fun e w' => e = .returned (.int .i64 n) ∧ w' = w := by
  obtain ⟨_, hn, _, _, mb, sa, cap, f, pos, _, h6, _⟩ := h
  have c0 := h6.c0
  go_enter Try.func30, Try.ntmps30
  go_wp2
  go_ret
  exact ⟨rfl, rfl⟩
theorem len_nil (w : World) : Calls Try.prog 30 #[.pointer none] w fun e w' => e = .returned (.int .i64 0) ∧ w' = w := by
  go_enter Try.func30, Try.ntmps30
  go_wp2
  go_ret
  exact ⟨rfl, rfl⟩

theorem find_any {w : World} {hb mb : Nat} {S : Nat → Prop} {sa : Option Addr} {n cap : Nat} {f : Nat → Int × Int} {c : Nat} {pos : Int → Option Nat} (h : HS w hb mb S sa n cap f c pos) (id : Int) (hid : -9223372036854775808 ≤ id ∧ id < 9223372036854775808) :
    Calls Try.prog 32 #[.pointer (some ⟨hb, 0, none⟩), .int .i64 id] w fun e w' => e = .returned (.tuple #[.int .i64 (((pos id).getD 0 : Nat) : Int), .bool (pos id).isSome]) ∧ w' = w := by
  have c1 := h.c1
  have L := h.map.look hid
  generalize (pos id).isSome = s at L ⊢
  generalize (((pos id).getD 0 : Nat) : Int) = p at L ⊢
  go_enter Try.func32, Try.ntmps32
  go_wp2
  go_ret2
  exact ⟨rfl, rfl⟩
theorem find_nil (id : Int) (w : World) : Calls Try.prog 32 #[.pointer none, .int .i64 id] w fun e w' => e = .returned (.tuple #[.int .i64 0, .bool false]) ∧ w' = w := by
  go_enter Try.func32, Try.ntmps32
  go_wp2
  go_ret2
  exact ⟨rfl, rfl⟩

theorem peek_none {w : World} {hb : Nat} {S : Nat → Prop} {M : Int × Int → Prop} (h : HeapIs w hb S M 0) : Calls Try.prog 29 #[.pointer (some ⟨hb, 0, none⟩)] w fun e w' => e = .returned (.tuple #[vI (0, 0), .bool false]) ∧ Below w.heap.size w w' := by
  have L := fun o => len_any (h.below (w' := w.alloc o) ((Below.refl _ _).alloc (Nat.le_refl _) _))
  go_enter Try.func29, Try.ntmps29
  go_wp2_with (go_at_call 30; refine (L _).mono ?_; rintro e w' ⟨rfl, hw⟩; obtain rfl := hw.symm)
  exact bodyPost_ret (v := .tuple #[vI (0, 0), .bool false]) (by simp [results, Try.results29, go_sem, vI]) rfl ⟨rfl, (Below.refl _ _).alloc (Nat.le_refl _) _⟩
theorem peek_nil (w : World) : Calls Try.prog 29 #[.pointer none] w fun e w' => e = .returned (.tuple #[vI (0, 0), .bool false]) ∧ Below w.heap.size w w' := by
  go_enter Try.func29, Try.ntmps29
  go_wp2_with (go_at_call 30; refine (len_nil _).mono ?_; rintro e w' ⟨rfl, hw⟩; obtain rfl := hw.symm)
  exact bodyPost_ret (v := .tuple #[vI (0, 0), .bool false]) (by simp [results, Try.results29, go_sem, vI]) rfl ⟨rfl, (Below.refl _ _).alloc (Nat.le_refl _) _⟩
theorem peek_some {w : World} {hb : Nat} {S : Nat → Prop} {M : Int × Int → Prop} {n : Nat} (h : HeapIs w hb S M n) (hn : 0 < n) : Calls Try.prog 29 #[.pointer (some ⟨hb, 0, none⟩)] w fun e w' => ∃ x, e = .returned (.tuple #[vI x, .bool true]) ∧
    (M x ∧ ∀ y, M y → ¬ lt y x) ∧ Below w.heap.size w w' := by
  have L := fun o => len_any (h.below (w' := w.alloc o) ((Below.refl _ _).alloc (Nat.le_refl _) _))
  obtain ⟨_, hn', _, _, mb, sa, cap, f, pos, _, h6, h7⟩ := h
  obtain ⟨g, rfl, _, hm⟩ := h6.hm hn
  have P : M (f 0) ∧ ∀ y, M y → ¬ lt y (f 0) := ⟨(h7.mem _).2 ⟨0, hn, rfl⟩, fun y hy => by obtain ⟨j, hj, rfl⟩ := (h7.mem y).1 hy; exact h7.least j hj⟩
  have c0 := hm.c0
  have hl := hm.hlt
  have hl2 := hm.arr.lt
  obtain ⟨g0, g1⟩ := hm.arr.cells hn
  simp only [Nat.zero_mul, Nat.zero_add] at g0 g1
  have e0 : ((n : Int) == 0) = false := by simp; omega
  have hn2 : (0 : Int) < (n : Int) := by omega
  clear h6 h7 hm
  go_enter Try.func29, Try.ntmps29
  go_wp2_with (go_at_call 30; refine (L _).mono ?_; rintro e w' ⟨rfl, hw⟩; obtain rfl := hw.symm)
  exact bodyPost_ret (v := .tuple #[vI (f 0), .bool true]) (by simp [results, Try.results29, go_sem, vI]) rfl ⟨f 0, rfl, P, (Below.refl _ _).alloc (Nat.le_refl _) _⟩

end Go.Proofs.Ythamaiibknmeeaa
