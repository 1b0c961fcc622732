/-
  How the reader of a line and a configuration lie in memory; what stays when one of them is written.
  What the reader's methods 'fine', 'must', 'word', 'number', 'name', 'borrow', 'by' of the program do. Condition: the reader lies in memory.
  What the reader's methods 'number', 'name', 'borrow', 'by' of the program do, and 'kindOf'. Condition: the reader lies in memory.
  How a configuration lies in memory.
  What the reader's methods 'total', 'period', 'seats' of the program do. Condition: the reader and the configuration lie in memory.
  What 'kindOf' of the program answers, and slices.ContainsFunc at the levels and at the schemas: is there one of that name? Condition: they lie in memory.
  slices.ContainsFunc at the levels and at the schemas: is there one of that name? Condition: they lie in memory.
  A configuration with one more level, schema, rule, in memory.
  A configuration as a value.
-/
import Derived.Test.YtaodckojinbdfaaGreatDoorMA
import Derived.Below
import Derived.Laws.Rows
import Derived.OwnWalk
import Derived.Deep.AppendLies
import Derived.Laws.AppendOwnNone
import Derived.Deep.SlicePairs
import Derived.Shelf.Abstract
import Derived.Deep.RegionLaw
namespace Go.Proofs.YtaodckojinbdfaaGreatDoor
open Go.RowKit

/-- Nothing that was there has turned but the blocks of S. -/
structure Kept (S : Nat → Prop) (w w' : World) : Prop where
  os : w'.os = w.os
  tape : w'.tape = w.tape
  output : w'.output = w.output
  size : w.heap.size ≤ w'.heap.size
  block : ∀ k, k < w.heap.size → ¬ S k → w'.heap[k]? = w.heap[k]?

theorem Kept.refl (S : Nat → Prop) (w : World) : Kept S w w := ⟨rfl, rfl, rfl, Nat.le_refl _, fun _ _ _ => rfl⟩
theorem Kept.trans {S : Nat → Prop} {a b c : World} (h : Kept S a b) (k : Kept S b c) : Kept S a c :=
  ⟨k.os.trans h.os, k.tape.trans h.tape, k.output.trans h.output, Nat.le_trans h.size k.size, fun i hi hn => (k.block i (Nat.lt_of_lt_of_le hi h.size) hn).trans (h.block i hi hn)⟩
theorem Kept.mono {S T : Nat → Prop} {w w' : World} (h : Kept S w w') (e : ∀ k, k < w.heap.size → S k → T k) : Kept T w w' :=
  ⟨h.os, h.tape, h.output, h.size, fun k hk hn => h.block k hk fun hs => hn (e k hk hs)⟩
theorem Kept.then {S T : Nat → Prop} {a b c : World} (h : Kept S a b) (k : Kept T b c) (e : ∀ j, j < a.heap.size → T j → S j) : Kept S a c :=
  ⟨k.os.trans h.os, k.tape.trans h.tape, k.output.trans h.output, Nat.le_trans h.size k.size, fun i hi hn => (k.block i (Nat.lt_of_lt_of_le hi h.size) fun ht => hn (e i hi ht)).trans (h.block i hi hn)⟩
theorem Kept.of_below {w w' : World} (h : Below w.heap.size w w') (S : Nat → Prop) : Kept S w w' := ⟨h.os, h.tape, h.output, h.size, fun k hk _ => h.block k hk⟩
theorem Kept.below {S : Nat → Prop} {B : Nat} {w w' : World} (h : Kept S w w') (hB : B ≤ w.heap.size) (e : ∀ k, S k → B ≤ k) : Below B w w' :=
  ⟨h.os, h.tape, h.output, h.size, fun k hk => h.block k (Nat.lt_of_lt_of_le hk hB) fun hs => by have := e k hs; omega⟩
theorem Kept.of_grown {S : Nat → Prop} {w w' : World} {row : Option Nat} (h : w.grownBy w' row) (e : ∀ k, row = some k → S k) : Kept S w w' :=
  ⟨h.os, h.tape, h.output, h.size, fun k hk hn => h.block k hk fun er => hn (e k er.symm)⟩
theorem Kept.alloc {S : Nat → Prop} {a w : World} (h : Kept S a w) (o : Obj) : Kept S a (w.alloc o) := h.trans (Kept.of_below ((Below.refl _ _).alloc (Nat.le_refl _) _) S)
theorem Kept.drew {S : Nat → Prop} {a w : World} (h : Kept S a w) : Kept S a w.drew := ⟨h.os, h.tape, h.output, h.size, h.block⟩
theorem Kept.setCell {S : Nat → Prop} {a w : World} (h : Kept S a w) (p : Addr) (v : Value) (hp : S p.block ∨ a.heap.size ≤ p.block) : Kept S a (w.setCell p v) :=
  ⟨h.os, h.tape, h.output, by simpa using h.size, fun k hk hn => (Below.heap_setCell _ _ _ _ (fun e => hp.elim (fun hp => hn (by rw [e]; exact hp)) (fun hp => by omega))).trans (h.block k hk hn)⟩

/-- A block of cells of the type t, which may be written. -/
def Blk (w : World) (b t : Nat) (cs : Array Value) : Prop := w.heap[b]? = some (.cells cs t (0, 0))
theorem Blk.lt {w : World} {b t : Nat} {cs : Array Value} (h : Blk w b t cs) : b < w.heap.size := by
  unfold Blk at h
  rcases Nat.lt_or_ge b w.heap.size with h1 | h1
  · exact h1
  · rw [Array.getElem?_eq_none h1] at h; cases h
theorem Blk.cell {w : World} {b t : Nat} {cs : Array Value} (h : Blk w b t cs) (i : Nat) : w.cell? ⟨b, i, none⟩ = cs[i]? := by
  unfold Blk at h; simp [World.cell?, h]
theorem Blk.cellv {w : World} {b t : Nat} {cs : Array Value} (h : Blk w b t cs) (i : Nat) {v : Value} (hv : cs[i]? = some v) : w.cell? ⟨b, i, none⟩ = some v := (h.cell i).trans hv
theorem Blk.frozen {w : World} {b t : Nat} {cs : Array Value} (h : Blk w b t cs) (i : Nat) : w.frozen? ⟨b, i, none⟩ = false := by
  unfold Blk at h; simp [World.frozen?, h]
theorem Blk.kept {S : Nat → Prop} {w w' : World} {b t : Nat} {cs : Array Value} (h : Blk w b t cs) (k : Kept S w w') (hS : ¬ S b) : Blk w' b t cs := (k.block b h.lt hS).trans h
theorem Blk.set {w : World} {b t : Nat} {cs : Array Value} (h : Blk w b t cs) (i : Nat) (v : Value) : Blk (w.setCell ⟨b, i, none⟩ v) b t (cs.setIfInBounds i v) := heap_setCell_same w b i cs t v h
theorem Blk.other {w : World} {b t : Nat} {cs : Array Value} (h : Blk w b t cs) {p : Addr} (hp : b ≠ p.block) (v : Value) : Blk (w.setCell p v) b t cs := (Below.heap_setCell _ _ _ _ hp).trans h
theorem Blk.new (w : World) (t : Nat) (cs : Array Value) : Blk (w.alloc (.cells cs t)) w.heap.size t cs := by
  unfold Blk; show (w.heap.push _)[_]? = _; simp
theorem Blk.ne {w : World} {b b' t t' : Nat} {cs cs' : Array Value} (h : Blk w b t cs) (h' : Blk w b' t' cs') (e : t ≠ t') : b ≠ b' := fun he => by
  subst he; unfold Blk at h h'; rw [h] at h'; cases h'; exact e rfl
theorem Blk.ne' {w : World} {b b' t t' : Nat} {cs cs' : Array Value} {f : Nat × Nat} (h : Blk w b t cs) (h' : w.heap[b']? = some (.cells cs' t' f)) (e : t ≠ t') : b ≠ b' := fun he => by
  subst he; unfold Blk at h; rw [h] at h'; cases h'; exact e rfl

/-- A list of texts lies in memory, from B on. -/
def RowY (B : Nat) (w : World) (a : Option Addr) (L : List ByteArray) : Prop :=
  0 < L.length → ∃ b off cur f, a = some ⟨b, off, none⟩ ∧ B ≤ b ∧ w.heap[b]? = some (.cells cur 9 f) ∧ ∀ k, k < L.length → cur[off + k]? = some (.string (gt L k))
theorem RowY.row {B : Nat} {w : World} {a : Option Addr} {L : List ByteArray} (h : RowY B w a L) : RowL w a L := fun hn => by
  obtain ⟨b, off, cur, f, e, _, hb, hc⟩ := h hn
  refine ⟨b, off, e, ?_, fun k hk => ?_⟩
  · rcases Nat.lt_or_ge b w.heap.size with h1 | h1
    · exact h1
    · rw [Array.getElem?_eq_none h1] at hb; cases hb
  · simp [World.cell?, hb, hc k hk]
theorem RowY.kept {B : Nat} {S : Nat → Prop} {w w' : World} {a : Option Addr} {L : List ByteArray} (h : RowY B w a L) (k : Kept S w w') (hS : ∀ b cur f, w.heap[b]? = some (.cells cur 9 f) → ¬ S b) : RowY B w' a L := fun hn => by
  obtain ⟨b, off, cur, f, e, hB, hb, hc⟩ := h hn
  refine ⟨b, off, cur, f, e, hB, (k.block b ?_ (hS b cur f hb)).trans hb, hc⟩
  rcases Nat.lt_or_ge b w.heap.size with h1 | h1
  · exact h1
  · rw [Array.getElem?_eq_none h1] at hb; cases hb
theorem RowY.below {B : Nat} {w w' : World} {a : Option Addr} {L : List ByteArray} (h : RowY B w a L) (k : Below w.heap.size w w') : RowY B w' a L := h.kept (Kept.of_below k (fun _ => False)) (fun _ _ _ _ => id)
theorem RowY.mono {B B' : Nat} {w : World} {a : Option Addr} {L : List ByteArray} (h : RowY B w a L) (k : B' ≤ B) : RowY B' w a L := fun hn => by
  obtain ⟨b, off, cur, f, e, hB, r⟩ := h hn
  exact ⟨b, off, cur, f, e, Nat.le_trans k hB, r⟩
theorem RowY.nil (B : Nat) (w : World) (a : Option Addr) : RowY B w a [] := fun h => absurd h (Nat.lt_irrefl 0)
theorem RowY.tail {B : Nat} {w : World} {b off : Nat} {L : List ByteArray} (h : RowY B w (some ⟨b, off, none⟩) L) : RowY B w (some ⟨b, off + 1, none⟩) L.tail := fun hn => by
  obtain ⟨b', off', cur, f, e, hB, hb, hc⟩ := h (by rw [List.length_tail] at hn; omega)
  cases e
  refine ⟨b, off + 1, cur, f, rfl, hB, hb, fun k hk => ?_⟩
  rw [List.length_tail] at hk
  rw [gt_tail, show off + 1 + k = off + (k + 1) by omega]
  exact hc (k + 1) (by omega)

/-- The reader of a line: the words that are left, the configuration at A, the error. -/
structure Rd (B : Nat) (w : World) (R A : Nat) (ws : List ByteArray) (e : Int) : Prop where
  le : B ≤ R
  sh : ∀ k, (gt ws k).size ≤ 65536
  ex : ∃ a c, Blk w R 48 #[.slice a ws.length c, .pointer (some ⟨A, 0, none⟩), .int .i64 e] ∧ RowY B w a ws ∧ ws.length ≤ c ∧ ws.length ≤ 65536
section
variable {B R A : Nat} {w w' : World} {ws : List ByteArray} {e : Int}
theorem Rd.lt (h : Rd B w R A ws e) : R < w.heap.size := by obtain ⟨_, _, hb, _⟩ := h.ex; exact hb.lt
theorem Rd.below (h : Rd B w R A ws e) (k : Kept (fun j => j = R) w w') : Below B w w' := k.below (Nat.le_trans h.le (Nat.le_of_lt h.lt)) (fun j hj => by rw [hj]; exact h.le)
theorem Rd.grown (h : Rd B w R A ws e) (k : Below w.heap.size w w') : Rd B w' R A ws e := by
  obtain ⟨a, c, hb, hr, hc⟩ := h.ex
  exact ⟨h.le, h.sh, a, c, hb.kept (Kept.of_below k (fun _ => False)) id, hr.below k, hc⟩
/-- A store into another block. -/
theorem Rd.other (h : Rd B w R A ws e) {g t : Nat} {cs : Array Value} (hg : Blk w g t cs) (h9 : t ≠ 9) (h48 : t ≠ 48) (i : Nat) (v : Value) : Rd B (w.setCell ⟨g, i, none⟩ v) R A ws e := by
  obtain ⟨a, c, hb, hr, hc⟩ := h.ex
  refine ⟨h.le, h.sh, a, c, hb.other (fun e => hg.ne hb h48 e.symm) v, hr.kept ((Kept.refl (fun k => k = g) w).setCell ⟨g, i, none⟩ v (.inl rfl)) (fun b cur f hb' => ?_), hc⟩
  intro e
  exact hg.ne' hb' h9 e.symm
end

theorem kept_set {w : World} {R : Nat} (i : Nat) (v : Value) : Kept (fun k => k = R) w (w.setCell ⟨R, i, none⟩ v) := (Kept.refl _ w).setCell ⟨R, i, none⟩ v (.inl rfl)

/-- The reader with another error. -/
theorem Rd.err {B R A : Nat} {w : World} {ws : List ByteArray} {e : Int} (h : Rd B w R A ws e) (e' : Int) : Rd B (w.setCell ⟨R, 2, none⟩ (.int .i64 e')) R A ws e' := by
  obtain ⟨a, c, hb, hr, hc⟩ := h.ex
  exact ⟨h.le, h.sh, a, c, hb.set 2 _, hr.kept (kept_set 2 _) (fun b cur f hb' e => hb.ne' hb' (by decide) e.symm), hc⟩
/-- The reader behind one word. -/
theorem Rd.next {B R A : Nat} {w : World} {ws : List ByteArray} {e : Int} (h : Rd B w R A ws e) {b off c : Nat} (hb : Blk w R 48 #[.slice (some ⟨b, off, none⟩) ws.length c, .pointer (some ⟨A, 0, none⟩), .int .i64 e])
    (hr : RowY B w (some ⟨b, off, none⟩) ws) (hc : ws.length ≤ c) (h6 : ws.length ≤ 65536) : Rd B (w.setCell ⟨R, 0, none⟩ (.slice (some ⟨b, off + 1, none⟩) ws.tail.length (c - 1))) R A ws.tail e := by
  refine ⟨h.le, fun k => by rw [gt_tail]; exact h.sh _, some ⟨b, off + 1, none⟩, c - 1, hb.set 0 _, hr.tail.kept (kept_set 0 _) (fun b' cur f hb' e => hb.ne' hb' (by decide) e.symm), ?_, ?_⟩ <;> rw [List.length_tail] <;> omega
/-- .. where none is left. -/
theorem Rd.next0 {B R A : Nat} {w : World} {ws : List ByteArray} {e : Int} (h : Rd B w R A ws e) {v : Value} {a : Option Addr} (hb : Blk w R 48 #[v, .pointer (some ⟨A, 0, none⟩), .int .i64 e]) : Rd B (w.setCell ⟨R, 0, none⟩ (.slice a 0 0)) R A [] e :=
  ⟨h.le, fun k => by unfold gt; simp; exact Nat.zero_le _, a, 0, hb.set 0 _, RowY.nil _ _ _, Nat.le_refl _, Nat.zero_le _⟩

end Go.Proofs.YtaodckojinbdfaaGreatDoor

namespace Go.Proofs.YtaodckojinbdfaaGreatDoor
open Go.RowKit

theorem fine_ok {B R A : Nat} {ws : List ByteArray} {e : Int} (w : World) (H : Rd B w R A ws e) :
    Calls Tryz.prog 48 #[.pointer (some ⟨R, 0, none⟩)] w fun x w' => x = .returned (.bool (e == 0)) ∧ w' = w := by
  obtain ⟨a, c, hb, hr, hc⟩ := H.ex
  have c2 := hb.cellv 2 rfl
  clear H hb hr hc
  go_enter Tryz.func48, Tryz.ntmps48
  go_wp2
  go_ret
  exact ⟨rfl, rfl⟩

theorem must_ok {B R A : Nat} {ws : List ByteArray} {e : Int} (w : World) (H : Rd B w R A ws e) (b : Bool) (x : Int) :
    Calls Tryz.prog 33 #[.pointer (some ⟨R, 0, none⟩), .bool b, .int .i64 x] w fun r w' => r = .returned (.tuple #[]) ∧ Rd B w' R A ws (mu e (ifE b x)) ∧ Kept (fun k => k = R) w w' := by
  have F := fine_ok w H
  obtain ⟨a, c, hb, hr, hc⟩ := H.ex
  have c2 := hb.cellv 2 rfl
  have f2 := hb.frozen 2
  have HH : Hd (Rd B w R A ws e) := ⟨H⟩
  clear H hb hr hc
  cases b with
  | true =>
    go_enter Tryz.func33, Tryz.ntmps33
    go_wp2_with fail
    go_end0
    refine ⟨rfl, ?_, Kept.refl _ _⟩
    rw [mu_yes]
    exact HH.out
  | false =>
    by_cases h0 : e = 0
    · subst h0
      go_enter Tryz.func33, Tryz.ntmps33
      go_wp2_with (go_at_call 48; refine F.mono ?_; rintro e w' ⟨rfl, hw⟩; obtain rfl := hw.symm)
      go_end0
      refine ⟨rfl, ?_, kept_set 2 _⟩
      rw [mu_zero, ifE_no]
      exact HH.out.err x
    · have e0 : (e == 0) = false := by simpa using h0
      rw [e0] at F
      go_enter Tryz.func33, Tryz.ntmps33
      go_wp2_with (go_at_call 48; refine F.mono ?_; rintro e w' ⟨rfl, hw⟩; obtain rfl := hw.symm)
      go_end0
      refine ⟨rfl, ?_, Kept.refl _ _⟩
      rw [mu_keep h0]
      exact HH.out

theorem word_rd {B R A : Nat} {ws : List ByteArray} {e : Int} (w : World) (H : Rd B w R A ws e) :
    Calls Tryz.prog 26 #[.pointer (some ⟨R, 0, none⟩)] w fun r w' => r = .returned (.string (gt ws 0)) ∧ Rd B w' R A ws.tail e ∧ Kept (fun k => k = R) w w' := by
  obtain ⟨a, c, hb, hr, hc, h6⟩ := H.ex
  have c0 := hb.cellv 0 rfl
  have f0 := hb.frozen 0
  have HH : Hd (Rd B w R A ws e) := ⟨H⟩
  cases ws with
  | nil =>
    clear H hb hr hc
    go_enter Tryz.func26, Tryz.ntmps26
    go_wp2_with fail
    go_ret
    exact ⟨rfl, HH.out, Kept.refl _ _⟩
  | cons x t =>
    obtain ⟨b, off, rfl, hbl, hcs⟩ := hr.row (by simp)
    have hcell := hcs 0 (by simp)
    rw [Nat.add_zero] at hcell
    have g0 : gt (x :: t) 0 = x := rfl
    rw [g0] at hcell ⊢
    have hlen : t.length + 1 ≤ c := hc
    have hl6 : t.length + 1 ≤ 65536 := h6
    rw [List.length_cons] at c0
    by_cases h1 : c = 1
    · obtain rfl : t = [] := List.length_eq_zero_iff.1 (by omega)
      subst h1
      have N : Hd (Rd B (w.setCell ⟨R, 0, none⟩ (.slice (some ⟨b, off, none⟩) 0 0)) R A [] e) := ⟨HH.out.next0 hb⟩
      clear H hb hr hc hcs HH g0 h6
      go_enter Tryz.func26, Tryz.ntmps26
      go_wp2_with fail
      go_ret
      exact ⟨rfl, N.out, kept_set 0 _⟩
    · have N : Hd (Rd B (w.setCell ⟨R, 0, none⟩ (.slice (some ⟨b, off + 1, none⟩) t.length (c - 1))) R A t e) := ⟨HH.out.next hb hr hc h6⟩
      have hc2 : ¬ c ≤ 1 := by omega
      have hc3 : ¬ c - 1 = 0 := by omega
      clear H hb hr hc hcs HH g0 h6
      generalize t.length = m at *
      go_enter Tryz.func26, Tryz.ntmps26
      go_wp2_with fail
      go_ret
      exact ⟨rfl, N.out, kept_set 0 _⟩

end Go.Proofs.YtaodckojinbdfaaGreatDoor

namespace Go.Proofs.YtaodckojinbdfaaGreatDoor
open Go.RowKit

theorem number_rd {B R A : Nat} {ws : List ByteArray} {e : Int} (w : World) (H : Rd B w R A ws e) (lo hi : Int) :
    Calls Tryz.prog 47 #[.pointer (some ⟨R, 0, none⟩), .int .i64 lo, .int .i64 hi] w fun r w' => r = .returned (.int .i64 (numOf (gt ws 0) lo hi)) ∧ Rd B w' R A ws.tail (mu e (ifE (numIn (gt ws 0) lo hi) 8)) ∧ Kept (fun k => k = R) w w' := by
  have W := word_rd w H
  have N := fun w => number_ok (gt ws 0) lo hi (by have := H.sh 0; omega) w
  clear H
  generalize gt ws 0 = x at *
  generalize numOf x lo hi = n at *
  generalize numIn x lo hi = b at *
  generalize ws.tail = t at *
  go_enter Tryz.func47, Tryz.ntmps47
  go_wp2_with (first
    | (go_at_call 26; refine W.mono ?_; rintro r w1 ⟨rfl, h1, k1⟩; have HH : Hd (Rd B w1 R A t e ∧ Kept (fun k => k = R) w w1) := ⟨h1, k1⟩; clear h1 k1)
    | (go_at_call 67; refine (N _).mono ?_; rintro r w2 ⟨rfl, hw⟩; obtain rfl := hw.symm)
    | (go_at_call 33; refine (must_ok _ HH.out.1 b 8).mono ?_; rintro r w2 ⟨rfl, h2, k2⟩))
  go_ret
  exact ⟨rfl, h2, HH.out.2.trans k2⟩

theorem name_rd {B R A : Nat} {ws : List ByteArray} {e : Int} (w : World) (H : Rd B w R A ws e) :
    Calls Tryz.prog 50 #[.pointer (some ⟨R, 0, none⟩)] w fun r w' => r = .returned (.string (gt ws 0)) ∧ Rd B w' R A ws.tail (mu e (ifE (isName (gt ws 0)) 4)) ∧ Kept (fun k => k = R) w w' := by
  have W := word_rd w H
  have N := fun w => name_ok (gt ws 0) (by have := H.sh 0; omega) w
  clear H
  generalize gt ws 0 = x at *
  generalize isName x = b at *
  generalize ws.tail = t at *
  go_enter Tryz.func50, Tryz.ntmps50
  go_wp2_with (first
    | (go_at_call 26; refine W.mono ?_; rintro r w1 ⟨rfl, h1, k1⟩; have HH : Hd (Rd B w1 R A t e ∧ Kept (fun k => k = R) w w1) := ⟨h1, k1⟩; clear h1 k1)
    | (go_at_call 68; refine (N _).mono ?_; rintro r w2 ⟨rfl, hw⟩; obtain rfl := hw.symm)
    | (go_at_call 33; refine (must_ok _ HH.out.1 b 4).mono ?_; rintro r w2 ⟨rfl, h2, k2⟩))
  go_ret
  exact ⟨rfl, h2, HH.out.2.trans k2⟩

theorem lst (x : ByteArray) (l : List UInt8) (h : x.data.toList = l) : x.toList = l := by rw [ByteArray.toList_eq]; exact h
/-- A text is held against a constant. -/
theorem str_is {x y : ByteArray} (h : x = y) : (x.toList == y.toList) = true := by subst h; simp
theorem str_isnt {x y : ByteArray} (h : x ≠ y) : (x.toList == y.toList) = false := str_ne h

theorem by_rd {B R A : Nat} {ws : List ByteArray} {e : Int} (w : World) (H : Rd B w R A ws e) :
    Calls Tryz.prog 54 #[.pointer (some ⟨R, 0, none⟩)] w fun r w' => r = .returned (.int .i64 (byOf (gt ws 0))) ∧ Rd B w' R A ws.tail (mu e (ifE (byOk (gt ws 0)) 2)) ∧ Kept (fun k => k = R) w w' := by
  have W := word_rd w H
  clear H
  generalize gt ws 0 = x at *
  generalize ws.tail = t at *
  by_cases h1 : x = tNone
  · have e1 : byOf x = 0 := by rw [h1]; rfl
    have e2 : byOk x = true := by rw [h1]; rfl
    rw [e1, e2, mu_yes]
    subst h1
    clear e1 e2
    unfold tNone at W
    go_enter Tryz.func54, Tryz.ntmps54
    go_wp2_with (first
      | (go_at_call 26; refine W.mono ?_; rintro r w1 ⟨rfl, h1, k1⟩; have HH : Hd (Rd B w1 R A t e ∧ Kept (fun k => k = R) w w1) := ⟨h1, k1⟩; clear h1 k1))
    go_ret
    exact ⟨rfl, HH.out.1, HH.out.2⟩
  by_cases h2 : x = tUser
  · have e1 : byOf x = 1 := by rw [h2]; rfl
    have e2 : byOk x = true := by rw [h2]; rfl
    rw [e1, e2, mu_yes]
    subst h2
    clear e1 e2 h1
    unfold tUser at W
    go_enter Tryz.func54, Tryz.ntmps54
    go_wp2_with (first
      | (go_at_call 26; refine W.mono ?_; rintro r w1 ⟨rfl, h1, k1⟩; have HH : Hd (Rd B w1 R A t e ∧ Kept (fun k => k = R) w w1) := ⟨h1, k1⟩; clear h1 k1))
    go_ret
    exact ⟨rfl, HH.out.1, HH.out.2⟩
  by_cases h3 : x = tSpace
  · have e1 : byOf x = 2 := by rw [h3]; rfl
    have e2 : byOk x = true := by rw [h3]; rfl
    rw [e1, e2, mu_yes]
    subst h3
    clear e1 e2 h1 h2
    unfold tSpace at W
    go_enter Tryz.func54, Tryz.ntmps54
    go_wp2_with (first
      | (go_at_call 26; refine W.mono ?_; rintro r w1 ⟨rfl, h1, k1⟩; have HH : Hd (Rd B w1 R A t e ∧ Kept (fun k => k = R) w w1) := ⟨h1, k1⟩; clear h1 k1))
    go_ret
    exact ⟨rfl, HH.out.1, HH.out.2⟩
  have e1 : byOf x = 0 := by unfold byOf; rw [if_neg h2, if_neg h3]
  have e2 : byOk x = false := by unfold byOk; simp [h1, h2, h3]
  rw [e1, e2]
  have n1 := str_isnt h1
  have n2 := str_isnt h2
  have n3 := str_isnt h3
  rw [lst tNone [110, 111, 110, 101] rfl] at n1
  rw [lst tUser [117, 115, 101, 114] rfl] at n2
  rw [lst tSpace [115, 112, 97, 99, 101] rfl] at n3
  clear e1 e2 h1 h2 h3
  go_enter Tryz.func54, Tryz.ntmps54
  go_wp2_with (first
    | (go_at_call 26; refine W.mono ?_; rintro r w1 ⟨rfl, h1, k1⟩; have HH : Hd (Rd B w1 R A t e ∧ Kept (fun k => k = R) w w1) := ⟨h1, k1⟩; clear h1 k1)
    | (go_at_call 33; refine (must_ok _ HH.out.1 false 2).mono ?_; rintro r w2 ⟨rfl, h2, k2⟩))
  go_ret
  exact ⟨rfl, h2, HH.out.2.trans k2⟩

theorem borrow_rd {B R A : Nat} {ws : List ByteArray} {e : Int} (w : World) (H : Rd B w R A ws e) :
    Calls Tryz.prog 51 #[.pointer (some ⟨R, 0, none⟩)] w fun r w' => r = .returned (.int .i64 (borrowOf (gt ws 0))) ∧ Rd B w' R A ws.tail (mu e (ifE (borrowOk (gt ws 0)) 8)) ∧ Kept (fun k => k = R) w w' := by
  have W := word_rd w H
  have N := number_rd w H 0 1000
  obtain ⟨a, c, hb, hr, hc, h6⟩ := H.ex
  have c0 := hb.cellv 0 rfl
  cases ws with
  | nil =>
    have e1 : borrowOf (gt [] 0) = numOf (gt [] 0) 0 1000 := rfl
    have e2 : borrowOk (gt [] 0) = numIn (gt [] 0) 0 1000 := rfl
    rw [e1, e2]
    clear H hb hr hc e1 e2 W
    generalize numOf (gt [] 0) 0 1000 = n at *
    generalize numIn (gt [] 0) 0 1000 = q at *
    go_enter Tryz.func51, Tryz.ntmps51
    go_wp2_with (go_at_call 47; refine N.mono ?_; rintro r w1 ⟨rfl, h1, k1⟩)
    go_ret
    exact ⟨rfl, h1, k1⟩
  | cons x t =>
    obtain ⟨b, off, rfl, hbl, hcs⟩ := hr.row (by simp)
    have hcell := hcs 0 (by simp)
    rw [Nat.add_zero] at hcell
    have g0 : gt (x :: t) 0 = x := rfl
    rw [g0] at hcell W N ⊢
    rw [List.length_cons] at c0
    have hl6 : t.length + 1 ≤ 65536 := h6
    clear H hb hr hc hcs g0 h6
    simp only [List.tail_cons] at W N ⊢
    have hsz : ∀ s : List ByteArray, s = t → s.length = t.length := fun s hs => by rw [hs]
    clear hsz
    generalize hm : t.length = m at *
    clear hm
    by_cases h1 : x = tAll
    · have e1 : borrowOf x = -1 := by unfold borrowOf; rw [if_pos h1]
      have e2 : borrowOk x = true := by unfold borrowOk; rw [if_pos h1]
      rw [e1, e2, mu_yes]
      subst h1
      clear e1 e2 N
      unfold tAll at W hcell
      go_enter Tryz.func51, Tryz.ntmps51
      go_wp2_with (go_at_call 26; refine W.mono ?_; rintro r w1 ⟨rfl, h1, k1⟩; have HH : Hd (Rd B w1 R A t e ∧ Kept (fun k => k = R) w w1) := ⟨h1, k1⟩; clear h1 k1)
      go_ret
      exact ⟨rfl, HH.out.1, HH.out.2⟩
    · have e1 : borrowOf x = numOf x 0 1000 := by unfold borrowOf; rw [if_neg h1]
      have e2 : borrowOk x = numIn x 0 1000 := by unfold borrowOk; rw [if_neg h1]
      rw [e1, e2]
      have n1 := str_isnt h1
      rw [lst tAll [97, 108, 108] rfl] at n1
      clear e1 e2 h1 W
      generalize numOf x 0 1000 = n at *
      generalize numIn x 0 1000 = q at *
      go_enter Tryz.func51, Tryz.ntmps51
      go_wp2_with (go_at_call 47; refine N.mono ?_; rintro r w1 ⟨rfl, h1, k1⟩)
      go_ret
      exact ⟨rfl, h1, k1⟩

end Go.Proofs.YtaodckojinbdfaaGreatDoor

namespace Go.Proofs.YtaodckojinbdfaaGreatDoor
open Go.RowKit

/-- A level's ten cells. -/
def lvC (l : Lv) : List Value := [.string l.name, .int .i64 l.kind, .int .i64 l.shares, .int .i64 l.lend, .int .i64 l.borrow, .int .i64 l.queues, .int .i64 l.hand, .int .i64 l.length, .int .i64 l.wait, .int .i64 l.guess]
def lvCs : List Lv → List Value
  | [] => []
  | l :: L => lvC l ++ lvCs L
theorem lvCs_len : ∀ L, (lvCs L).length = L.length * 10
  | [] => rfl
  | l :: L => by simp [lvCs, lvC, lvCs_len L]; omega
theorem lvCs_append : ∀ A B, lvCs (A ++ B) = lvCs A ++ lvCs B
  | [], B => rfl
  | x :: A, B => by simp [lvCs, lvCs_append A B]
theorem lvCs_at : ∀ (L : List Lv) (i j : Nat) (h : i < L.length), j < 10 → (lvCs L)[i * 10 + j]? = (lvC L[i])[j]?
  | [], i, j, h, _ => by simp at h
  | x :: L, 0, j, _, hj => by
    simp only [lvCs, Nat.zero_mul, Nat.zero_add]
    rw [List.getElem?_append_left (by simpa [lvC] using hj)]
    rfl
  | x :: L, i + 1, j, h, hj => by
    have := lvCs_at L i j (by simpa using h) hj
    simp only [lvCs]
    rw [List.getElem?_append_right (by simp [lvC]; omega), show (i + 1) * 10 + j - (lvC x).length = i * 10 + j by simp [lvC]; omega]
    simpa using this

def LvOwn (B : Nat) (w : World) (v : Value) (L : List Lv) : Prop := w.ownsRow B 39 10 v L.length (lvCs L)

/-- v is a slice of texts, which lie in memory from B on. -/
def Lst (B : Nat) (w : World) (v : Value) (L : List ByteArray) : Prop := ∃ a c, v = .slice a L.length c ∧ RowY B w a L ∧ L.length ≤ c ∧ L.length ≤ 65536
/-- A rule's five cells. -/
def RlV (B : Nat) (w : World) (cs : List Value) (r : Rl) : Prop :=
  ∃ v0 v1 v2 v3 v4, cs = [v0, v1, v2, v3, v4] ∧ Lst B w v0 r.users ∧ Lst B w v1 r.groups ∧ Lst B w v2 r.verbs ∧ Lst B w v3 r.resources ∧ Lst B w v4 r.spaces
def RlsV (B : Nat) (w : World) : List Value → List Rl → Prop
  | cs, [] => cs = []
  | cs, r :: rs => ∃ c cs', cs = c ++ cs' ∧ RlV B w c r ∧ RlsV B w cs' rs
def RlOwn (B : Nat) (w : World) (v : Value) (rs : List Rl) : Prop := ∃ cs, w.ownsRow B 73 5 v rs.length cs ∧ RlsV B w cs rs
/-- The schemas' cells, V: the slices of their rules. -/
def scC (s : Sc) (v : Value) : List Value := [.string s.name, .string s.level, .int .i64 s.rank, .int .i64 s.way, v]
def scCs : List Sc → List Value → List Value
  | s :: ss, v :: vs => scC s v ++ scCs ss vs
  | _, _ => []
structure ScOwn (B : Nat) (w : World) (v : Value) (ss : List Sc) (V : List Value) : Prop where
  len : V.length = ss.length
  own : w.ownsRow B 42 5 v ss.length (scCs ss V)
  rls : ∀ k (h : k < ss.length) (h' : k < V.length), RlOwn B w V[k] ss[k].rules

/-! ### what stays -/
section
variable {B : Nat} {S : Nat → Prop} {w w' : World} {v : Value}
theorem owns_kept {e size n : Nat} {xs : List Value} (h : w.ownsRow B e size v n xs) (k : Kept S w w') (hS : ∀ g, v.ownBlock = some g → ¬ S g) : w'.ownsRow B e size v n xs := by
  have hl := h.lt
  obtain ⟨h1, h2⟩ := h
  refine ⟨h1, h2.imp id ?_⟩
  rintro ⟨g, cap, cur, rfl, hb, hg, r⟩
  exact ⟨g, cap, cur, rfl, hb, (k.block g (hl g rfl).2 (hS g rfl)).trans hg, r⟩
/-- The row's block bears its type. -/
theorem owns_type {e size n g : Nat} {xs : List Value} (h : w.ownsRow B e size v n xs) (hg : v.ownBlock = some g) : ∃ cur, Blk w g e cur := by
  rcases h.2 with ⟨rfl, _⟩ | ⟨g', cap, cur, rfl, _, hb, _⟩
  · cases hg
  · cases hg
    exact ⟨cur, hb⟩
theorem owns_mono {B' e size n : Nat} {xs : List Value} (h : w.ownsRow B e size v n xs) (k : B' ≤ B) : w.ownsRow B' e size v n xs := by
  obtain ⟨h1, h2⟩ := h
  refine ⟨h1, h2.imp id ?_⟩
  rintro ⟨g, cap, cur, rfl, hb, r⟩
  exact ⟨g, cap, cur, rfl, Nat.le_trans k hb, r⟩
theorem Lst.kept {L : List ByteArray} (h : Lst B w v L) (k : Kept S w w') (hS : ∀ b cur f, w.heap[b]? = some (.cells cur 9 f) → ¬ S b) : Lst B w' v L := by
  obtain ⟨a, c, e, hr, hc⟩ := h
  exact ⟨a, c, e, hr.kept k hS, hc⟩
theorem RlV.kept {cs : List Value} {r : Rl} (h : RlV B w cs r) (k : Kept S w w') (hS : ∀ b cur f, w.heap[b]? = some (.cells cur 9 f) → ¬ S b) : RlV B w' cs r := by
  obtain ⟨v0, v1, v2, v3, v4, e, h0, h1, h2, h3, h4⟩ := h
  exact ⟨v0, v1, v2, v3, v4, e, h0.kept k hS, h1.kept k hS, h2.kept k hS, h3.kept k hS, h4.kept k hS⟩
theorem RlsV.kept (k : Kept S w w') (hS : ∀ b cur f, w.heap[b]? = some (.cells cur 9 f) → ¬ S b) : ∀ (cs : List Value) (rs : List Rl), RlsV B w cs rs → RlsV B w' cs rs
  | _, [], h => h
  | _, _ :: rs, ⟨c, cs', e, hr, ht⟩ => ⟨c, cs', e, hr.kept k hS, RlsV.kept k hS cs' rs ht⟩
theorem RlOwn.kept {rs : List Rl} (h : RlOwn B w v rs) (k : Kept S w w') (hS : ∀ b cur f, w.heap[b]? = some (.cells cur 9 f) → ¬ S b) (hv : ∀ g, v.ownBlock = some g → ¬ S g) : RlOwn B w' v rs := by
  obtain ⟨cs, ho, hr⟩ := h
  exact ⟨cs, owns_kept ho k hv, RlsV.kept k hS cs rs hr⟩
/-- No block of the types of a configuration is in S. -/
structure Free (S : Nat → Prop) (w : World) : Prop where
  s9 : ∀ (b : Nat) (cur : Array Value) (f : Nat × Nat), w.heap[b]? = some (.cells cur 9 f) → ¬ S b
  s26 : ∀ b cur, Blk w b 26 cur → ¬ S b
  s39 : ∀ b cur, Blk w b 39 cur → ¬ S b
  s42 : ∀ b cur, Blk w b 42 cur → ¬ S b
  s73 : ∀ b cur, Blk w b 73 cur → ¬ S b
theorem RlOwn.free {rs : List Rl} (h : RlOwn B w v rs) (k : Kept S w w') (f : Free S w) : RlOwn B w' v rs := by
  refine h.kept k f.s9 (fun g hg => ?_)
  obtain ⟨cs, ho, _⟩ := h
  obtain ⟨cur, hb⟩ := owns_type ho hg
  exact f.s73 g cur hb
theorem ScOwn.free {ss : List Sc} {V : List Value} (h : ScOwn B w v ss V) (k : Kept S w w') (f : Free S w) : ScOwn B w' v ss V :=
  ⟨h.len, owns_kept h.own k (fun g hg => by obtain ⟨cur, hb⟩ := owns_type h.own hg; exact f.s42 g cur hb), fun i hi hi' => (h.rls i hi hi').free k f⟩
theorem LvOwn.free {L : List Lv} (h : LvOwn B w v L) (k : Kept S w w') (f : Free S w) : LvOwn B w' v L :=
  owns_kept h k (fun g hg => by obtain ⟨cur, hb⟩ := owns_type h hg; exact f.s39 g cur hb)
end
theorem free_of_blk {w : World} {R t : Nat} {cs : Array Value} (h : Blk w R t cs) (h9 : t ≠ 9) (h26 : t ≠ 26) (h39 : t ≠ 39) (h42 : t ≠ 42) (h73 : t ≠ 73) : Free (fun k => k = R) w :=
  ⟨fun _ _ _ hb e => h.ne' hb h9 e.symm, fun _ _ hb e => h.ne hb h26 e.symm, fun _ _ hb e => h.ne hb h39 e.symm, fun _ _ hb e => h.ne hb h42 e.symm, fun _ _ hb e => h.ne hb h73 e.symm⟩
theorem Rd.free {B R A : Nat} {w : World} {ws : List ByteArray} {e : Int} (h : Rd B w R A ws e) : Free (fun k => k = R) w := by
  obtain ⟨a, c, hb, _⟩ := h.ex
  exact free_of_blk hb (by decide) (by decide) (by decide) (by decide) (by decide)

/-- The rules of the schema that was told last lie in a block of their own. -/
def Dj (V : List Value) : Prop := ∀ v, V.getLast? = some v → v.ownBlock = none ∨ ∀ u ∈ V.dropLast, u.ownBlock ≠ v.ownBlock

/-- A configuration, in the six cells at A. -/
structure Cfg (B : Nat) (w : World) (A : Nat) (C : Cf) : Prop where
  le : B ≤ A
  ex : ∃ vL vS V, Blk w A 26 #[.int .i64 C.total, .int .i64 C.period, .int .i64 C.perSeat, .int .i64 C.most, vL, vS] ∧ LvOwn B w vL C.levels ∧ ScOwn B w vS C.schemas V ∧ Dj V
theorem Cfg.free {B A : Nat} {S : Nat → Prop} {w w' : World} {C : Cf} (h : Cfg B w A C) (k : Kept S w w') (f : Free S w) : Cfg B w' A C := by
  obtain ⟨vL, vS, V, hb, hl, hs, hd⟩ := h.ex
  exact ⟨h.le, vL, vS, V, hb.kept k (f.s26 A _ hb), hl.free k f, hs.free k f, hd⟩
theorem Cfg.grown {B A : Nat} {w w' : World} {C : Cf} (h : Cfg B w A C) (k : Below w.heap.size w w') : Cfg B w' A C :=
  h.free (Kept.of_below k (fun _ => False)) ⟨fun _ _ _ _ => id, fun _ _ _ => id, fun _ _ _ => id, fun _ _ _ => id, fun _ _ _ => id⟩

/-- From B on nothing but blocks of texts is as it was. -/
structure KT (B : Nat) (w w' : World) : Prop where
  below : Below B w w'
  ty : ∀ (k : Nat) (cur : Array Value) (f : Nat × Nat), w.heap[k]? = some (.cells cur 9 f) → w'.heap[k]? = some (.cells cur 9 f)
theorem KT.refl (B : Nat) (w : World) : KT B w w := ⟨Below.refl _ _, fun _ _ _ h => h⟩
theorem KT.trans {B : Nat} {a b c : World} (h : KT B a b) (k : KT B b c) : KT B a c := ⟨h.below.trans k.below, fun i cur f hi => k.ty i cur f (h.ty i cur f hi)⟩
theorem KT.of_kept {B : Nat} {S : Nat → Prop} {w w' : World} (k : Kept S w w') (hB : B ≤ w.heap.size) (e : ∀ j, S j → B ≤ j) (h9 : ∀ b cur f, w.heap[b]? = some (.cells cur 9 f) → ¬ S b) : KT B w w' := by
  refine ⟨k.below hB e, fun i cur f hi => (k.block i ?_ (h9 i cur f hi)).trans hi⟩
  rcases Nat.lt_or_ge i w.heap.size with h1 | h1
  · exact h1
  · rw [Array.getElem?_eq_none h1] at hi; cases hi
theorem KT.of_grown {B : Nat} {w w' : World} (k : Below w.heap.size w w') (hB : B ≤ w.heap.size) : KT B w w' := KT.of_kept (Kept.of_below k (fun _ => False)) hB (fun _ h => h.elim) (fun _ _ _ _ => id)
theorem Rd.kt {B R A : Nat} {w w' : World} {ws : List ByteArray} {e : Int} (h : Rd B w R A ws e) (k : Kept (fun j => j = R) w w') : KT B w w' :=
  KT.of_kept k (Nat.le_trans h.le (Nat.le_of_lt h.lt)) (fun j hj => by rw [hj]; exact h.le) h.free.s9
theorem RowY.kt {B B' : Nat} {w w' : World} {a : Option Addr} {L : List ByteArray} (h : RowY B w a L) (k : KT B' w w') : RowY B w' a L := fun hn => by
  obtain ⟨b, off, cur, f, e, hB, hb, hc⟩ := h hn
  exact ⟨b, off, cur, f, e, hB, k.ty b cur f hb, hc⟩
end Go.Proofs.YtaodckojinbdfaaGreatDoor

namespace Go.Proofs.YtaodckojinbdfaaGreatDoor
open Go.RowKit

/-- What a line did: the reader's error, and the configuration, if there is none. -/
structure Told (B R A : Nat) (w w' : World) (E : Int) (C : Cf) : Prop where
  rd : ∃ ws, Rd B w' R A ws E
  cfg : E = 0 → Cfg B w' A C
  kt : KT B w w'
/-- No block of levels, schemas, rules, texts is in S. -/
structure Free3 (S : Nat → Prop) (w : World) : Prop where
  s9 : ∀ (b : Nat) (cur : Array Value) (f : Nat × Nat), w.heap[b]? = some (.cells cur 9 f) → ¬ S b
  s39 : ∀ b cur, Blk w b 39 cur → ¬ S b
  s42 : ∀ b cur, Blk w b 42 cur → ¬ S b
  s73 : ∀ b cur, Blk w b 73 cur → ¬ S b
theorem free3_of_blk {w : World} {A : Nat} {cs : Array Value} (h : Blk w A 26 cs) : Free3 (fun k => k = A) w :=
  ⟨fun _ _ _ hb e => h.ne' hb (by decide) e.symm, fun _ _ hb e => h.ne hb (by decide) e.symm, fun _ _ hb e => h.ne hb (by decide) e.symm, fun _ _ hb e => h.ne hb (by decide) e.symm⟩
section
variable {B : Nat} {S : Nat → Prop} {w w' : World} {v : Value}
theorem RlOwn.free3 {rs : List Rl} (h : RlOwn B w v rs) (k : Kept S w w') (f : Free3 S w) : RlOwn B w' v rs := by
  refine h.kept k f.s9 (fun g hg => ?_)
  obtain ⟨cs, ho, _⟩ := h
  obtain ⟨cur, hb⟩ := owns_type ho hg
  exact f.s73 g cur hb
theorem ScOwn.free3 {ss : List Sc} {V : List Value} (h : ScOwn B w v ss V) (k : Kept S w w') (f : Free3 S w) : ScOwn B w' v ss V :=
  ⟨h.len, owns_kept h.own k (fun g hg => by obtain ⟨cur, hb⟩ := owns_type h.own hg; exact f.s42 g cur hb), fun i hi hi' => (h.rls i hi hi').free3 k f⟩
theorem LvOwn.free3 {L : List Lv} (h : LvOwn B w v L) (k : Kept S w w') (f : Free3 S w) : LvOwn B w' v L :=
  owns_kept h k (fun g hg => by obtain ⟨cur, hb⟩ := owns_type h hg; exact f.s39 g cur hb)
end

theorem total_rd {B R A : Nat} {C : Cf} {ws : List ByteArray} (w : World) (H : Rd B w R A ws 0) (K : Cfg B w A C) :
    Calls Tryz.prog 27 #[.pointer (some ⟨R, 0, none⟩)] w fun r w' => r = .returned (.tuple #[]) ∧ Told B R A w w' (totalE C ws) ⟨numOf (gt ws 0) 1 4096, C.period, C.perSeat, C.most, C.levels, C.schemas⟩ := by
  obtain ⟨a, c, hb, hr, hc, h6⟩ := H.ex
  have c0 := hb.cellv 0 rfl
  have M1 := must_ok w H ((ws.length : Int) == 1) 2
  rw [mu_zero] at M1
  clear hb hr hc
  unfold totalE
  generalize hn0 : numOf (gt ws 0) 1 4096 = n0
  generalize hb0 : numIn (gt ws 0) 1 4096 = b0
  generalize hE : mu (mu (ifE ((ws.length : Int) == 1) 2) (ifE b0 8)) (ifE (C.total == 0) 5) = E
  go_enter Tryz.func27, Tryz.ntmps27
  go_wp2_with fail
  go_at_call 33
  refine M1.mono ?_
  rintro r w1 ⟨rfl, h1, k1⟩
  clear M1 c0
  have N2 := number_rd w1 h1 1 4096
  rw [hn0, hb0] at N2
  go_wp2_with fail
  go_at_call 47
  refine N2.mono ?_
  rintro r w2 ⟨rfl, h2, k2⟩
  clear N2
  have kk : Kept (fun k => k = R) w w2 := (k1).trans k2
  have K2 := K.free kk H.free
  obtain ⟨a2, q2, hb2, -⟩ := h2.ex
  have d1 := hb2.cellv 1 rfl
  obtain ⟨vL, vS, V, hA, hL, hS, hD⟩ := K2.ex
  have t0 := hA.cellv 0 rfl
  have M3 := must_ok w2 h2 (C.total == 0) 5
  have H2 : Hd (Rd B w2 R A _ _) := ⟨h2⟩
  clear hL hS hD hA hb2
  go_wp2_with fail
  go_at_call 33
  refine M3.mono ?_
  rintro r w3 ⟨rfl, h3, k3⟩
  clear M3 d1 t0
  rw [hE] at h3
  clear hE
  have F := fine_ok w3 h3
  have K3 := K.free (kk.trans k3) H.free
  obtain ⟨a3, q3, hb3, -⟩ := h3.ex
  have d1 := hb3.cellv 1 rfl
  obtain ⟨vL, vS, V, hA, hL, hS, hD⟩ := K3.ex
  have t0 := hA.cellv 0 rfl
  have f0 := hA.frozen 0
  have KA : Kept (fun k => k = A) w3 (w3.setCell ⟨A, 0, none⟩ (.int .i64 n0)) := ((Kept.refl (fun k => k = A) w3).setCell ⟨A, 0, none⟩ (.int .i64 n0) (.inl rfl))
  have FA : Free3 (fun k => k = A) w3 := free3_of_blk hA
  have R4 : Hd (Told B R A w (w3.setCell ⟨A, 0, none⟩ (.int .i64 n0)) E ⟨n0, C.period, C.perSeat, C.most, C.levels, C.schemas⟩) :=
    ⟨⟨_, (h3.other hA (by decide) (by decide) 0 (.int .i64 n0))⟩, fun _ => ⟨K3.le, vL, vS, V, (hA.set 0 (.int .i64 n0)), hL.free3 KA FA, hS.free3 KA FA, hD⟩, (H.kt (kk.trans k3)).trans (KT.of_kept KA (Nat.le_trans K3.le (Nat.le_of_lt hA.lt)) (fun j hj => by rw [hj]; exact K3.le) FA.s9)⟩
  have R3 : Hd (E ≠ 0 → Told B R A w w3 E ⟨n0, C.period, C.perSeat, C.most, C.levels, C.schemas⟩) := ⟨fun h => ⟨⟨_, h3⟩, fun h0 => absurd h0 h, H.kt (kk.trans k3)⟩⟩
  clear hb3 hA hL hS hD K3 KA FA h3 k3 kk K2 H2 K H
  by_cases h0 : E = 0
  · subst h0
    go_wp2_with (go_at_call 48; refine F.mono ?_; rintro e w' ⟨rfl, hw⟩; obtain rfl := hw.symm)
    go_end0
    exact ⟨rfl, R4.out⟩
  · have e0 : (E == 0) = false := by simpa using h0
    rw [e0] at F
    go_wp2_with (go_at_call 48; refine F.mono ?_; rintro e w' ⟨rfl, hw⟩; obtain rfl := hw.symm)
    go_end0
    exact ⟨rfl, R3.out h0⟩

theorem period_rd {B R A : Nat} {C : Cf} {ws : List ByteArray} (w : World) (H : Rd B w R A ws 0) (K : Cfg B w A C) :
    Calls Tryz.prog 28 #[.pointer (some ⟨R, 0, none⟩)] w fun r w' => r = .returned (.tuple #[]) ∧ Told B R A w w' (periodE C ws) ⟨C.total, numOf (gt ws 0) 1 1000, C.perSeat, C.most, C.levels, C.schemas⟩ := by
  obtain ⟨a, c, hb, hr, hc, h6⟩ := H.ex
  have c0 := hb.cellv 0 rfl
  have M1 := must_ok w H ((ws.length : Int) == 1) 2
  rw [mu_zero] at M1
  clear hb hr hc
  unfold periodE
  generalize hn0 : numOf (gt ws 0) 1 1000 = n0
  generalize hb0 : numIn (gt ws 0) 1 1000 = b0
  generalize hE : mu (mu (ifE ((ws.length : Int) == 1) 2) (ifE b0 8)) (ifE (C.period == 0) 5) = E
  go_enter Tryz.func28, Tryz.ntmps28
  go_wp2_with fail
  go_at_call 33
  refine M1.mono ?_
  rintro r w1 ⟨rfl, h1, k1⟩
  clear M1 c0
  have N2 := number_rd w1 h1 1 1000
  rw [hn0, hb0] at N2
  go_wp2_with fail
  go_at_call 47
  refine N2.mono ?_
  rintro r w2 ⟨rfl, h2, k2⟩
  clear N2
  have kk : Kept (fun k => k = R) w w2 := (k1).trans k2
  have K2 := K.free kk H.free
  obtain ⟨a2, q2, hb2, -⟩ := h2.ex
  have d1 := hb2.cellv 1 rfl
  obtain ⟨vL, vS, V, hA, hL, hS, hD⟩ := K2.ex
  have t0 := hA.cellv 1 rfl
  have M3 := must_ok w2 h2 (C.period == 0) 5
  have H2 : Hd (Rd B w2 R A _ _) := ⟨h2⟩
  clear hL hS hD hA hb2
  go_wp2_with fail
  go_at_call 33
  refine M3.mono ?_
  rintro r w3 ⟨rfl, h3, k3⟩
  clear M3 d1 t0
  rw [hE] at h3
  clear hE
  have F := fine_ok w3 h3
  have K3 := K.free (kk.trans k3) H.free
  obtain ⟨a3, q3, hb3, -⟩ := h3.ex
  have d1 := hb3.cellv 1 rfl
  obtain ⟨vL, vS, V, hA, hL, hS, hD⟩ := K3.ex
  have t1 := hA.cellv 1 rfl
  have f1 := hA.frozen 1
  have KA : Kept (fun k => k = A) w3 (w3.setCell ⟨A, 1, none⟩ (.int .i64 n0)) := ((Kept.refl (fun k => k = A) w3).setCell ⟨A, 1, none⟩ (.int .i64 n0) (.inl rfl))
  have FA : Free3 (fun k => k = A) w3 := free3_of_blk hA
  have R4 : Hd (Told B R A w (w3.setCell ⟨A, 1, none⟩ (.int .i64 n0)) E ⟨C.total, n0, C.perSeat, C.most, C.levels, C.schemas⟩) :=
    ⟨⟨_, (h3.other hA (by decide) (by decide) 1 (.int .i64 n0))⟩, fun _ => ⟨K3.le, vL, vS, V, (hA.set 1 (.int .i64 n0)), hL.free3 KA FA, hS.free3 KA FA, hD⟩, (H.kt (kk.trans k3)).trans (KT.of_kept KA (Nat.le_trans K3.le (Nat.le_of_lt hA.lt)) (fun j hj => by rw [hj]; exact K3.le) FA.s9)⟩
  have R3 : Hd (E ≠ 0 → Told B R A w w3 E ⟨C.total, n0, C.perSeat, C.most, C.levels, C.schemas⟩) := ⟨fun h => ⟨⟨_, h3⟩, fun h0 => absurd h0 h, H.kt (kk.trans k3)⟩⟩
  clear hb3 hA hL hS hD K3 KA FA h3 k3 kk K2 H2 K H
  by_cases h0 : E = 0
  · subst h0
    go_wp2_with (go_at_call 48; refine F.mono ?_; rintro e w' ⟨rfl, hw⟩; obtain rfl := hw.symm)
    go_end0
    exact ⟨rfl, R4.out⟩
  · have e0 : (E == 0) = false := by simpa using h0
    rw [e0] at F
    go_wp2_with (go_at_call 48; refine F.mono ?_; rintro e w' ⟨rfl, hw⟩; obtain rfl := hw.symm)
    go_end0
    exact ⟨rfl, R3.out h0⟩

theorem seats_rd {B R A : Nat} {C : Cf} {ws : List ByteArray} (w : World) (H : Rd B w R A ws 0) (K : Cfg B w A C) :
    Calls Tryz.prog 29 #[.pointer (some ⟨R, 0, none⟩)] w fun r w' => r = .returned (.tuple #[]) ∧ Told B R A w w' (seatsE C ws) ⟨C.total, C.period, numOf (gt ws 0) 1 1048576, numOf (gt ws 1) 1 16, C.levels, C.schemas⟩ := by
  obtain ⟨a, c, hb, hr, hc, h6⟩ := H.ex
  have c0 := hb.cellv 0 rfl
  have M1 := must_ok w H ((ws.length : Int) == 2) 2
  rw [mu_zero] at M1
  clear hb hr hc
  unfold seatsE
  generalize hn0 : numOf (gt ws 0) 1 1048576 = n0
  generalize hb0 : numIn (gt ws 0) 1 1048576 = b0
  generalize hn1 : numOf (gt ws 1) 1 16 = n1
  generalize hb1 : numIn (gt ws 1) 1 16 = b1
  generalize hE : mu (mu (mu (ifE ((ws.length : Int) == 2) 2) (ifE b0 8)) (ifE b1 8)) (ifE (C.perSeat == 0) 5) = E
  go_enter Tryz.func29, Tryz.ntmps29
  go_wp2_with fail
  go_at_call 33
  refine M1.mono ?_
  rintro r w1 ⟨rfl, h1, k1⟩
  clear M1 c0
  have N2 := number_rd w1 h1 1 1048576
  rw [hn0, hb0] at N2
  go_wp2_with fail
  go_at_call 47
  refine N2.mono ?_
  rintro r w2 ⟨rfl, h2, k2⟩
  clear N2
  have N3 := number_rd w2 h2 1 16
  rw [gt_tail] at N3
  rw [hn1, hb1] at N3
  go_wp2_with fail
  go_at_call 47
  refine N3.mono ?_
  rintro r w3 ⟨rfl, h3, k3⟩
  clear N3
  have kk : Kept (fun k => k = R) w w3 := ((k1).trans k2).trans k3
  have K2 := K.free kk H.free
  obtain ⟨a2, q2, hb2, -⟩ := h3.ex
  have d1 := hb2.cellv 1 rfl
  obtain ⟨vL, vS, V, hA, hL, hS, hD⟩ := K2.ex
  have t0 := hA.cellv 2 rfl
  have M3 := must_ok w3 h3 (C.perSeat == 0) 5
  have H2 : Hd (Rd B w3 R A _ _) := ⟨h3⟩
  clear hL hS hD hA hb2
  go_wp2_with fail
  go_at_call 33
  refine M3.mono ?_
  rintro r w3 ⟨rfl, h3, k3⟩
  clear M3 d1 t0
  rw [hE] at h3
  clear hE
  have F := fine_ok w3 h3
  have K3 := K.free (kk.trans k3) H.free
  obtain ⟨a3, q3, hb3, -⟩ := h3.ex
  have d1 := hb3.cellv 1 rfl
  obtain ⟨vL, vS, V, hA, hL, hS, hD⟩ := K3.ex
  have t2 := hA.cellv 2 rfl
  have f2 := hA.frozen 2
  have t3 := hA.cellv 3 rfl
  have f3 := hA.frozen 3
  have KA : Kept (fun k => k = A) w3 ((w3.setCell ⟨A, 2, none⟩ (.int .i64 n0)).setCell ⟨A, 3, none⟩ (.int .i64 n1)) := (((Kept.refl (fun k => k = A) w3).setCell ⟨A, 2, none⟩ (.int .i64 n0) (.inl rfl)).setCell ⟨A, 3, none⟩ (.int .i64 n1) (.inl rfl))
  have FA : Free3 (fun k => k = A) w3 := free3_of_blk hA
  have R4 : Hd (Told B R A w ((w3.setCell ⟨A, 2, none⟩ (.int .i64 n0)).setCell ⟨A, 3, none⟩ (.int .i64 n1)) E ⟨C.total, C.period, n0, n1, C.levels, C.schemas⟩) :=
    ⟨⟨_, ((h3.other hA (by decide) (by decide) 2 (.int .i64 n0)).other (hA.set 2 _) (by decide) (by decide) 3 (.int .i64 n1))⟩, fun _ => ⟨K3.le, vL, vS, V, ((hA.set 2 (.int .i64 n0)).set 3 (.int .i64 n1)), hL.free3 KA FA, hS.free3 KA FA, hD⟩, (H.kt (kk.trans k3)).trans (KT.of_kept KA (Nat.le_trans K3.le (Nat.le_of_lt hA.lt)) (fun j hj => by rw [hj]; exact K3.le) FA.s9)⟩
  have R3 : Hd (E ≠ 0 → Told B R A w w3 E ⟨C.total, C.period, n0, n1, C.levels, C.schemas⟩) := ⟨fun h => ⟨⟨_, h3⟩, fun h0 => absurd h0 h, H.kt (kk.trans k3)⟩⟩
  clear hb3 hA hL hS hD K3 KA FA h3 k3 kk K2 H2 K H
  by_cases h0 : E = 0
  · subst h0
    go_wp2_with (go_at_call 48; refine F.mono ?_; rintro e w' ⟨rfl, hw⟩; obtain rfl := hw.symm)
    go_end0
    exact ⟨rfl, R4.out⟩
  · have e0 : (E == 0) = false := by simpa using h0
    rw [e0] at F
    go_wp2_with (go_at_call 48; refine F.mono ?_; rintro e w' ⟨rfl, hw⟩; obtain rfl := hw.symm)
    go_end0
    exact ⟨rfl, R3.out h0⟩

end Go.Proofs.YtaodckojinbdfaaGreatDoor

namespace Go.Proofs.YtaodckojinbdfaaGreatDoor
open Go.RowKit

theorem kind_ok (a : Option Addr) (c : Nat) (ws : List ByteArray) (w : World) (hr : RowL w a ws) :
    Calls Tryz.prog 49 #[.slice a ws.length c] w fun r w' => r = .returned (.int .i64 (kindW ws)) ∧ w' = w := by
  by_cases h2 : ws.length = 2
  · obtain ⟨b, off, rfl, _, hcs⟩ := hr (by omega)
    have c1 := hcs 1 (by omega)
    rw [h2]
    by_cases hx : gt ws 1 = tExempt
    · have e : kindW ws = 1 := by unfold kindW; rw [if_pos ⟨h2, hx⟩]
      rw [e]
      rw [hx] at c1
      unfold tExempt at c1
      clear hr hcs e hx h2
      go_enter Tryz.func49, Tryz.ntmps49
      go_wp2_with fail
      go_ret
      exact ⟨rfl, rfl⟩
    · have e : kindW ws = 0 := by unfold kindW; rw [if_neg (fun h => hx h.2), if_neg (fun h => by omega), if_neg (fun h => by omega)]
      rw [e]
      have n1 := str_isnt hx
      rw [lst tExempt [101, 120, 101, 109, 112, 116] rfl] at n1
      clear hr hcs e hx h2
      generalize gt ws 1 = x at *
      go_enter Tryz.func49, Tryz.ntmps49
      go_wp2_with fail
      go_ret
      exact ⟨rfl, rfl⟩
  by_cases h5 : ws.length = 5
  · obtain ⟨b, off, rfl, _, hcs⟩ := hr (by omega)
    have c1 := hcs 4 (by omega)
    rw [h5]
    by_cases hx : gt ws 4 = tReject
    · have e : kindW ws = 2 := by unfold kindW; rw [if_neg (fun h => by omega), if_pos ⟨h5, hx⟩]
      rw [e]
      rw [hx] at c1
      unfold tReject at c1
      clear hr hcs e hx h2 h5
      go_enter Tryz.func49, Tryz.ntmps49
      go_wp2_with fail
      go_ret
      exact ⟨rfl, rfl⟩
    · have e : kindW ws = 0 := by unfold kindW; rw [if_neg (fun h => by omega), if_neg (fun h => hx h.2), if_neg (fun h => by omega)]
      rw [e]
      have n1 := str_isnt hx
      rw [lst tReject [114, 101, 106, 101, 99, 116] rfl] at n1
      clear hr hcs e hx h2 h5
      generalize gt ws 4 = x at *
      go_enter Tryz.func49, Tryz.ntmps49
      go_wp2_with fail
      go_ret
      exact ⟨rfl, rfl⟩
  by_cases h10 : ws.length = 10
  · obtain ⟨b, off, rfl, _, hcs⟩ := hr (by omega)
    have c1 := hcs 4 (by omega)
    rw [h10]
    by_cases hx : gt ws 4 = tQueue
    · have e : kindW ws = 3 := by unfold kindW; rw [if_neg (fun h => by omega), if_neg (fun h => by omega), if_pos ⟨h10, hx⟩]
      rw [e]
      rw [hx] at c1
      unfold tQueue at c1
      clear hr hcs e hx h2 h5 h10
      go_enter Tryz.func49, Tryz.ntmps49
      go_wp2_with fail
      go_ret
      exact ⟨rfl, rfl⟩
    · have e : kindW ws = 0 := by unfold kindW; rw [if_neg (fun h => by omega), if_neg (fun h => by omega), if_neg (fun h => hx h.2)]
      rw [e]
      have n1 := str_isnt hx
      rw [lst tQueue [113, 117, 101, 117, 101] rfl] at n1
      clear hr hcs e hx h2 h5 h10
      generalize gt ws 4 = x at *
      go_enter Tryz.func49, Tryz.ntmps49
      go_wp2_with fail
      go_ret
      exact ⟨rfl, rfl⟩
  have e : kindW ws = 0 := by unfold kindW; rw [if_neg (fun h => by omega), if_neg (fun h => by omega), if_neg (fun h => by omega)]
  rw [e]
  have e2 : ((ws.length : Int) == 2) = false := by simp; omega
  have e5 : ((ws.length : Int) == 5) = false := by simp; omega
  have e10 : ((ws.length : Int) == 10) = false := by simp; omega
  clear hr e h2 h5 h10
  generalize ws.length = n at *
  go_enter Tryz.func49, Tryz.ntmps49
  go_wp2_with fail
  go_ret
  exact ⟨rfl, rfl⟩

/-! ### is there one of that name? -/
def lvV (l : Lv) : Value := .agg #[.string l.name, .int .i64 l.kind, .int .i64 l.shares, .int .i64 l.lend, .int .i64 l.borrow, .int .i64 l.queues, .int .i64 l.hand, .int .i64 l.length, .int .i64 l.wait, .int .i64 l.guess]
def scV (s : Sc) (v : Value) : Value := .agg #[.string s.name, .string s.level, .int .i64 s.rank, .int .i64 s.way, v]

theorem name_eq (x y : ByteArray) : (x.toList == y.toList) = decide (x = y) := by
  by_cases h : x = y
  · rw [str_is h, decide_eq_true h]
  · rw [str_isnt h, decide_eq_false h]

theorem isLv_ok (l : Lv) (g : Nat) (x : ByteArray) (w : World) (hg : w.cell? ⟨g, 0, none⟩ = some (.string x)) :
    Calls Tryz.prog 53 #[lvV l, .pointer (some ⟨g, 0, none⟩)] w fun r w' => r = .returned (.bool (decide (l.name = x))) ∧ Below w.heap.size w w' := by
  have hlt : g < w.heap.size := by
    rcases Nat.lt_or_ge g w.heap.size with h1 | h1
    · exact h1
    · simp [World.cell?, Array.getElem?_eq_none h1] at hg
  rw [← name_eq]
  obtain ⟨n, a1, a2, a3, a4, a5, a6, a7, a8, a9⟩ := l
  have b1 : Below w.heap.size w (w.alloc (.cells #[.string n, .int .i64 a1, .int .i64 a2, .int .i64 a3, .int .i64 a4, .int .i64 a5, .int .i64 a6, .int .i64 a7, .int .i64 a8, .int .i64 a9] 39)) := (Below.refl _ _).alloc (Nat.le_refl _) _
  have y1 : (w.alloc (.cells #[.string n, .int .i64 a1, .int .i64 a2, .int .i64 a3, .int .i64 a4, .int .i64 a5, .int .i64 a6, .int .i64 a7, .int .i64 a8, .int .i64 a9] 39)).cell? ⟨g, 0, none⟩ = some (.string x) := (b1.cell (p := ⟨g, 0, none⟩) hlt).trans hg
  have BB : Hd (Below w.heap.size w (w.alloc (.cells #[.string n, .int .i64 a1, .int .i64 a2, .int .i64 a3, .int .i64 a4, .int .i64 a5, .int .i64 a6, .int .i64 a7, .int .i64 a8, .int .i64 a9] 39))) := ⟨b1⟩
  clear hg b1
  unfold lvV
  go_enter Tryz.func53, Tryz.ntmps53
  go_wp2_with fail
  go_ret
  exact ⟨rfl, BB.out⟩

theorem isSc_ok (l : Sc) (v : Value) (g : Nat) (x : ByteArray) (w : World) (hg : w.cell? ⟨g, 0, none⟩ = some (.string x)) :
    Calls Tryz.prog 56 #[scV l v, .pointer (some ⟨g, 0, none⟩)] w fun r w' => r = .returned (.bool (decide (l.name = x))) ∧ Below w.heap.size w w' := by
  have hlt : g < w.heap.size := by
    rcases Nat.lt_or_ge g w.heap.size with h1 | h1
    · exact h1
    · simp [World.cell?, Array.getElem?_eq_none h1] at hg
  rw [← name_eq]
  obtain ⟨n, a1, a2, a3, a4⟩ := l
  have b1 : Below w.heap.size w (w.alloc (.cells #[.string n, .string a1, .int .i64 a2, .int .i64 a3, v] 42)) := (Below.refl _ _).alloc (Nat.le_refl _) _
  have y1 : (w.alloc (.cells #[.string n, .string a1, .int .i64 a2, .int .i64 a3, v] 42)).cell? ⟨g, 0, none⟩ = some (.string x) := (b1.cell (p := ⟨g, 0, none⟩) hlt).trans hg
  have BB : Hd (Below w.heap.size w (w.alloc (.cells #[.string n, .string a1, .int .i64 a2, .int .i64 a3, v] 42))) := ⟨b1⟩
  clear hg b1
  unfold scV
  go_enter Tryz.func56, Tryz.ntmps56
  go_wp2_with fail
  go_ret
  exact ⟨rfl, BB.out⟩

end Go.Proofs.YtaodckojinbdfaaGreatDoor

namespace Go.Proofs.YtaodckojinbdfaaGreatDoor
open Go.RowKit

theorem scCs_len : ∀ (L : List Sc) (V : List Value), V.length = L.length → (scCs L V).length = L.length * 5
  | [], [], _ => rfl
  | s :: L, v :: V, h => by simp [scCs, scC, scCs_len L V (by simpa using h)]; omega
  | [], _ :: _, h => by simp at h
  | _ :: _, [], h => by simp at h
theorem scCs_append : ∀ (A : List Sc) (V : List Value) (s : Sc) (v : Value), V.length = A.length → scCs (A ++ [s]) (V ++ [v]) = scCs A V ++ scC s v
  | [], [], s, v, _ => by simp [scCs]
  | a :: A, u :: V, s, v, h => by simp [scCs, scCs_append A V s v (by simpa using h)]
  | [], _ :: _, _, _, h => by simp at h
  | _ :: _, [], _, _, h => by simp at h
theorem scCs_at : ∀ (L : List Sc) (V : List Value) (i j : Nat) (h : i < L.length) (h' : i < V.length), j < 5 → (scCs L V)[i * 5 + j]? = (scC L[i] V[i])[j]?
  | [], _, i, j, h, _, _ => by simp at h
  | _ :: _, [], i, j, _, h, _ => by simp at h
  | x :: L, v :: V, 0, j, _, _, hj => by
    simp only [scCs, Nat.zero_mul, Nat.zero_add]
    rw [List.getElem?_append_left (by simpa [scC] using hj)]
    rfl
  | x :: L, v :: V, i + 1, j, h, h', hj => by
    have := scCs_at L V i j (by simpa using h) (by simpa using h') hj
    simp only [scCs]
    rw [List.getElem?_append_right (by simp [scC]; omega), show (i + 1) * 5 + j - (scC x v).length = i * 5 + j by simp [scC]; omega]
    simpa using this

/-- What a row of levels reads like. -/
theorem rowLv {B : Nat} {w : World} {v : Value} {L : List Lv} (h : LvOwn B w v L) : (v = .slice none 0 0 ∧ L = []) ∨ ∃ g cap, v = .slice (some ⟨g, 0, none⟩) L.length cap ∧ g < w.heap.size ∧ L.length ≤ cap ∧ ∀ k (h : k < L.length), ∀ j, j < 10 → w.cell? ⟨g, k * 10 + j, none⟩ = (lvC L[k])[j]? := by
  rcases id h.2 with ⟨rfl, e⟩ | ⟨g, cap, cur, rfl, hb, hg, hc, hm, r⟩
  · exact .inl ⟨rfl, List.length_eq_zero_iff.1 e⟩
  · refine .inr ⟨g, cap, rfl, (h.lt g rfl).2, hc, fun k hk j hj => ?_⟩
    have h' : w.ownsRow B 39 10 (.slice (some ⟨g, 0, none⟩) L.length cap) L.length (lvCs L) := h
    rw [h'.cellAt _ (by omega), lvCs_at L k j hk hj]

theorem indexLv (L : List Lv) (g r cap : Nat) (x : ByteArray) (w : World) (hg : w.cell? ⟨g, 0, none⟩ = some (.string x)) (hr : r < w.heap.size) (hl : L.length ≤ 65536)
    (hcs : ∀ k (h : k < L.length), ∀ j, j < 10 → w.cell? ⟨r, k * 10 + j, none⟩ = (lvC L[k])[j]?) :
    Calls Tryz.prog 69 #[.slice (some ⟨r, 0, none⟩) L.length cap, .func (.func 53) #[] #[.pointer (some ⟨g, 0, none⟩)]] w fun e w' => (∃ q : Int, e = .returned (.int .i64 q) ∧ decide (0 ≤ q) = L.any fun l => decide (l.name = x)) ∧ Below w.heap.size w w' := by
  have hlt : g < w.heap.size := by
    rcases Nat.lt_or_ge g w.heap.size with h1 | h1
    · exact h1
    · simp [World.cell?, Array.getElem?_eq_none h1] at hg
  have eg : ∀ args w, (callFunc 53 args).run Tryz.prog w = .ok (.enter 53 args) w := enters_of Tryz.func53 (by kernel_rfl) rfl
  have HC : Hd (∀ k (h : k < L.length), ∀ j, j < 10 → w.cell? ⟨r, k * 10 + j, none⟩ = (lvC L[k])[j]?) := ⟨hcs⟩
  clear hcs
  go_enter Tryz.func69, Tryz.ntmps69
  go_wp2_with fail
  go_loopw [8] (fun i wr => ∃ k : Nat, k ≤ L.length ∧ i = .int .i64 k ∧ Hd (∀ j (h : j < L.length), j < k → L[j].name ≠ x) ∧ Below w.heap.size w wr) (fun i _ => L.length - (intOf i).toNat)
  case atStart => exact ⟨0, Nat.zero_le _, rfl, ⟨fun j _ h => absurd h (Nat.not_lt_zero _)⟩, Below.refl _ _⟩
  case round =>
    obtain ⟨k, hk, rfl, hno, hb⟩ := hrel
    by_cases hlt' : k < L.length
    · have hcs := HC.out
      have hlt := hlt'
      have HI : Hd (k < L.length) := ⟨hlt⟩
      have cs : ∀ j, j < 10 → wr.cell? ⟨r, k * 10 + j, none⟩ = (lvC L[k])[j]? := fun j hj => (hb.cell (p := ⟨r, k * 10 + j, none⟩) hr).trans (hcs k hlt j hj)
      have I := isLv_ok L[k] g x wr ((hb.cell (p := ⟨g, 0, none⟩) (by omega)).trans hg)
      have BB : Hd (Below w.heap.size w wr) := ⟨hb⟩
      have hgl : Hd (g < w.heap.size) := ⟨by omega⟩
      by_cases hx : L[k].name = x
      · have A : Hd ((L.any fun l => decide (l.name = x)) = true) := ⟨List.any_eq_true.2 ⟨L[k], List.getElem_mem hlt, decide_eq_true hx⟩⟩
        rw [decide_eq_true hx] at I
        clear hcs hb hno hx hg
        have x0 : wr.cell? ⟨r, k * 10, none⟩ = some (.string L[k].name) := cs 0 (by decide)
        have x1 : wr.cell? ⟨r, k * 10 + 1, none⟩ = some (.int .i64 L[k].kind) := cs 1 (by decide)
        have x2 : wr.cell? ⟨r, k * 10 + 2, none⟩ = some (.int .i64 L[k].shares) := cs 2 (by decide)
        have x3 : wr.cell? ⟨r, k * 10 + 3, none⟩ = some (.int .i64 L[k].lend) := cs 3 (by decide)
        have x4 : wr.cell? ⟨r, k * 10 + 4, none⟩ = some (.int .i64 L[k].borrow) := cs 4 (by decide)
        have x5 : wr.cell? ⟨r, k * 10 + 5, none⟩ = some (.int .i64 L[k].queues) := cs 5 (by decide)
        have x6 : wr.cell? ⟨r, k * 10 + 6, none⟩ = some (.int .i64 L[k].hand) := cs 6 (by decide)
        have x7 : wr.cell? ⟨r, k * 10 + 7, none⟩ = some (.int .i64 L[k].length) := cs 7 (by decide)
        have x8 : wr.cell? ⟨r, k * 10 + 8, none⟩ = some (.int .i64 L[k].wait) := cs 8 (by decide)
        have x9 : wr.cell? ⟨r, k * 10 + 9, none⟩ = some (.int .i64 L[k].guess) := cs 9 (by decide)
        clear cs
        unfold lvV at I
        generalize L[k] = l at *
        obtain ⟨n, a1, a2, a3, a4, a5, a6, a7, a8, a9⟩ := l
        go_wp2_with (go_at_fn 53; refine I.mono ?_; rintro e w2 ⟨rfl, h2⟩)
        go_ret
        exact ⟨⟨k, rfl, by rw [A.out]; exact decide_eq_true (by omega)⟩, BB.out.trans (h2.mono BB.out.size)⟩
      · have A : Hd (∀ j (h : j < L.length), j < k + 1 → L[j].name ≠ x) := ⟨fun j hj hjk => by
          rcases Nat.lt_or_eq_of_le (Nat.le_of_lt_succ hjk) with h | h
          · exact hno.out j hj h
          · subst h; exact hx⟩
        rw [decide_eq_false hx] at I
        clear hcs hb hno hx hg
        have x0 : wr.cell? ⟨r, k * 10, none⟩ = some (.string L[k].name) := cs 0 (by decide)
        have x1 : wr.cell? ⟨r, k * 10 + 1, none⟩ = some (.int .i64 L[k].kind) := cs 1 (by decide)
        have x2 : wr.cell? ⟨r, k * 10 + 2, none⟩ = some (.int .i64 L[k].shares) := cs 2 (by decide)
        have x3 : wr.cell? ⟨r, k * 10 + 3, none⟩ = some (.int .i64 L[k].lend) := cs 3 (by decide)
        have x4 : wr.cell? ⟨r, k * 10 + 4, none⟩ = some (.int .i64 L[k].borrow) := cs 4 (by decide)
        have x5 : wr.cell? ⟨r, k * 10 + 5, none⟩ = some (.int .i64 L[k].queues) := cs 5 (by decide)
        have x6 : wr.cell? ⟨r, k * 10 + 6, none⟩ = some (.int .i64 L[k].hand) := cs 6 (by decide)
        have x7 : wr.cell? ⟨r, k * 10 + 7, none⟩ = some (.int .i64 L[k].length) := cs 7 (by decide)
        have x8 : wr.cell? ⟨r, k * 10 + 8, none⟩ = some (.int .i64 L[k].wait) := cs 8 (by decide)
        have x9 : wr.cell? ⟨r, k * 10 + 9, none⟩ = some (.int .i64 L[k].guess) := cs 9 (by decide)
        clear cs
        unfold lvV at I
        generalize L[k] = l at *
        obtain ⟨n, a1, a2, a3, a4, a5, a6, a7, a8, a9⟩ := l
        go_wp2_with (go_at_fn 53; refine I.mono ?_; rintro e w2 ⟨rfl, h2⟩)
        go_roundw
        case rel => exact ⟨k + 1, HI.out, by go_num, A, BB.out.trans (h2.mono BB.out.size)⟩
        case measure => have := HI.out; simp [intOf]; omega
    · obtain rfl : k = L.length := by omega
      have A : Hd ((L.any fun l => decide (l.name = x)) = false) := ⟨by
        rw [List.any_eq_false]
        intro l hl'
        obtain ⟨j, hj, rfl⟩ := List.getElem_of_mem hl'
        simpa using hno.out j hj hj⟩
      clear hno hg
      go_wp2_with fail
      go_ret
      exact ⟨⟨-1, rfl, by rw [A.out]; decide⟩, hb⟩

theorem hasLv_ok {B : Nat} {v : Value} {L : List Lv} (g : Nat) (x : ByteArray) (w : World) (hg : w.cell? ⟨g, 0, none⟩ = some (.string x)) (ho : LvOwn B w v L) (hl : L.length ≤ 65536) :
    Calls Tryz.prog 52 #[v, .func (.func 53) #[] #[.pointer (some ⟨g, 0, none⟩)]] w fun e w' => e = .returned (.bool (L.any fun l => decide (l.name = x))) ∧ Below w.heap.size w w' := by
  rcases rowLv ho with ⟨rfl, rfl⟩ | ⟨r, cap, rfl, hr, hc, hcs⟩
  · have I : Calls Tryz.prog 69 #[.slice none 0 0, .func (.func 53) #[] #[.pointer (some ⟨g, 0, none⟩)]] w fun e w' => e = .returned (.int .i64 (-1)) ∧ w' = w := by
      clear hg ho hl
      go_enter Tryz.func69, Tryz.ntmps69
      go_wp2_with fail
      refine wp_loop_rounds 1 ?_
      rw [rounds_succ]
      go_wp2_with fail
      go_ret
      exact ⟨rfl, rfl⟩
    clear hg ho hl
    go_enter Tryz.func52, Tryz.ntmps52
    go_wp2_with (go_at_call 69; refine I.mono ?_; rintro e w' ⟨rfl, hw⟩; obtain rfl := hw.symm)
    go_ret
    exact ⟨rfl, Below.refl _ _⟩
  · have I := indexLv L g r cap x w hg hr hl hcs
    clear hg hcs hr ho
    generalize (L.any fun l => decide (l.name = x)) = b at *
    go_enter Tryz.func52, Tryz.ntmps52
    go_wp2_with (go_at_call 69; refine I.mono ?_; rintro e w' ⟨⟨q, rfl, hq⟩, hb⟩)
    go_ret
    exact ⟨by rw [← hq]; rfl, hb⟩

/-- What a row of schemas reads like. -/
theorem rowSc {B : Nat} {w : World} {v : Value} {L : List Sc} {V : List Value} (h : ScOwn B w v L V) : (v = .slice none 0 0 ∧ L = []) ∨ ∃ g cap, v = .slice (some ⟨g, 0, none⟩) L.length cap ∧ g < w.heap.size ∧ L.length ≤ cap ∧ ∀ k (h : k < L.length) (h' : k < V.length), ∀ j, j < 5 → w.cell? ⟨g, k * 5 + j, none⟩ = (scC L[k] V[k])[j]? := by
  rcases id h.own.2 with ⟨rfl, e⟩ | ⟨g, cap, cur, rfl, hb, hg, hc, hm, r⟩
  · exact .inl ⟨rfl, List.length_eq_zero_iff.1 e⟩
  · refine .inr ⟨g, cap, rfl, (h.own.lt g rfl).2, hc, fun k hk hk' j hj => ?_⟩
    rw [h.own.cellAt _ (by omega), scCs_at L V k j hk hk' hj]

theorem indexSc (L : List Sc) (V : List Value) (hV : V.length = L.length) (g r cap : Nat) (x : ByteArray) (w : World) (hg : w.cell? ⟨g, 0, none⟩ = some (.string x)) (hr : r < w.heap.size) (hl : L.length ≤ 65536)
    (hcs : ∀ k (h : k < L.length) (h' : k < V.length), ∀ j, j < 5 → w.cell? ⟨r, k * 5 + j, none⟩ = (scC L[k] V[k])[j]?) :
    Calls Tryz.prog 70 #[.slice (some ⟨r, 0, none⟩) L.length cap, .func (.func 56) #[] #[.pointer (some ⟨g, 0, none⟩)]] w fun e w' => (∃ q : Int, e = .returned (.int .i64 q) ∧ decide (0 ≤ q) = L.any fun l => decide (l.name = x)) ∧ Below w.heap.size w w' := by
  have hlt : g < w.heap.size := by
    rcases Nat.lt_or_ge g w.heap.size with h1 | h1
    · exact h1
    · simp [World.cell?, Array.getElem?_eq_none h1] at hg
  have eg : ∀ args w, (callFunc 56 args).run Tryz.prog w = .ok (.enter 56 args) w := enters_of Tryz.func56 (by kernel_rfl) rfl
  have HC : Hd (∀ k (h : k < L.length) (h' : k < V.length), ∀ j, j < 5 → w.cell? ⟨r, k * 5 + j, none⟩ = (scC L[k] V[k])[j]?) := ⟨hcs⟩
  clear hcs
  go_enter Tryz.func70, Tryz.ntmps70
  go_wp2_with fail
  go_loopw [8] (fun i wr => ∃ k : Nat, k ≤ L.length ∧ i = .int .i64 k ∧ Hd (∀ j (h : j < L.length), j < k → L[j].name ≠ x) ∧ Below w.heap.size w wr) (fun i _ => L.length - (intOf i).toNat)
  case atStart => exact ⟨0, Nat.zero_le _, rfl, ⟨fun j _ h => absurd h (Nat.not_lt_zero _)⟩, Below.refl _ _⟩
  case round =>
    obtain ⟨k, hk, rfl, hno, hb⟩ := hrel
    by_cases hlt' : k < L.length
    · have hcs := HC.out
      have hlt := hlt'
      have HI : Hd (k < L.length) := ⟨hlt⟩
      have hkV : k < V.length := by omega
      have cs : ∀ j, j < 5 → wr.cell? ⟨r, k * 5 + j, none⟩ = (scC L[k] V[k])[j]? := fun j hj => (hb.cell (p := ⟨r, k * 5 + j, none⟩) hr).trans (hcs k hlt (by omega) j hj)
      have I := isSc_ok L[k] V[k] g x wr ((hb.cell (p := ⟨g, 0, none⟩) (by omega)).trans hg)
      have BB : Hd (Below w.heap.size w wr) := ⟨hb⟩
      have hgl : Hd (g < w.heap.size) := ⟨by omega⟩
      by_cases hx : L[k].name = x
      · have A : Hd ((L.any fun l => decide (l.name = x)) = true) := ⟨List.any_eq_true.2 ⟨L[k], List.getElem_mem hlt, decide_eq_true hx⟩⟩
        rw [decide_eq_true hx] at I
        clear hcs hb hno hx hg
        have x0 : wr.cell? ⟨r, k * 5, none⟩ = some (.string L[k].name) := cs 0 (by decide)
        have x1 : wr.cell? ⟨r, k * 5 + 1, none⟩ = some (.string L[k].level) := cs 1 (by decide)
        have x2 : wr.cell? ⟨r, k * 5 + 2, none⟩ = some (.int .i64 L[k].rank) := cs 2 (by decide)
        have x3 : wr.cell? ⟨r, k * 5 + 3, none⟩ = some (.int .i64 L[k].way) := cs 3 (by decide)
        have x4 : wr.cell? ⟨r, k * 5 + 4, none⟩ = some (V[k]) := cs 4 (by decide)
        clear cs
        unfold scV at I
        generalize V[k] = vv at *
        generalize L[k] = l at *
        obtain ⟨n, a1, a2, a3, a4⟩ := l
        go_wp2_with (go_at_fn 56; refine I.mono ?_; rintro e w2 ⟨rfl, h2⟩)
        go_ret
        exact ⟨⟨k, rfl, by rw [A.out]; exact decide_eq_true (by omega)⟩, BB.out.trans (h2.mono BB.out.size)⟩
      · have A : Hd (∀ j (h : j < L.length), j < k + 1 → L[j].name ≠ x) := ⟨fun j hj hjk => by
          rcases Nat.lt_or_eq_of_le (Nat.le_of_lt_succ hjk) with h | h
          · exact hno.out j hj h
          · subst h; exact hx⟩
        rw [decide_eq_false hx] at I
        clear hcs hb hno hx hg
        have x0 : wr.cell? ⟨r, k * 5, none⟩ = some (.string L[k].name) := cs 0 (by decide)
        have x1 : wr.cell? ⟨r, k * 5 + 1, none⟩ = some (.string L[k].level) := cs 1 (by decide)
        have x2 : wr.cell? ⟨r, k * 5 + 2, none⟩ = some (.int .i64 L[k].rank) := cs 2 (by decide)
        have x3 : wr.cell? ⟨r, k * 5 + 3, none⟩ = some (.int .i64 L[k].way) := cs 3 (by decide)
        have x4 : wr.cell? ⟨r, k * 5 + 4, none⟩ = some (V[k]) := cs 4 (by decide)
        clear cs
        unfold scV at I
        generalize V[k] = vv at *
        generalize L[k] = l at *
        obtain ⟨n, a1, a2, a3, a4⟩ := l
        go_wp2_with (go_at_fn 56; refine I.mono ?_; rintro e w2 ⟨rfl, h2⟩)
        go_roundw
        case rel => exact ⟨k + 1, HI.out, by go_num, A, BB.out.trans (h2.mono BB.out.size)⟩
        case measure => have := HI.out; simp [intOf]; omega
    · obtain rfl : k = L.length := by omega
      have A : Hd ((L.any fun l => decide (l.name = x)) = false) := ⟨by
        rw [List.any_eq_false]
        intro l hl'
        obtain ⟨j, hj, rfl⟩ := List.getElem_of_mem hl'
        simpa using hno.out j hj hj⟩
      clear hno hg
      go_wp2_with fail
      go_ret
      exact ⟨⟨-1, rfl, by rw [A.out]; decide⟩, hb⟩

theorem hasSc_ok {B : Nat} {v : Value} {L : List Sc} {V : List Value} (g : Nat) (x : ByteArray) (w : World) (hg : w.cell? ⟨g, 0, none⟩ = some (.string x)) (ho : ScOwn B w v L V) (hl : L.length ≤ 65536) :
    Calls Tryz.prog 55 #[v, .func (.func 56) #[] #[.pointer (some ⟨g, 0, none⟩)]] w fun e w' => e = .returned (.bool (L.any fun l => decide (l.name = x))) ∧ Below w.heap.size w w' := by
  rcases rowSc ho with ⟨rfl, rfl⟩ | ⟨r, cap, rfl, hr, hc, hcs⟩
  · have I : Calls Tryz.prog 70 #[.slice none 0 0, .func (.func 56) #[] #[.pointer (some ⟨g, 0, none⟩)]] w fun e w' => e = .returned (.int .i64 (-1)) ∧ w' = w := by
      clear hg ho hl
      go_enter Tryz.func70, Tryz.ntmps70
      go_wp2_with fail
      refine wp_loop_rounds 1 ?_
      rw [rounds_succ]
      go_wp2_with fail
      go_ret
      exact ⟨rfl, rfl⟩
    clear hg ho hl
    go_enter Tryz.func55, Tryz.ntmps55
    go_wp2_with (go_at_call 70; refine I.mono ?_; rintro e w' ⟨rfl, hw⟩; obtain rfl := hw.symm)
    go_ret
    exact ⟨rfl, Below.refl _ _⟩
  · have I := indexSc L V ho.len g r cap x w hg hr hl hcs
    clear hg hcs hr ho
    generalize (L.any fun l => decide (l.name = x)) = b at *
    go_enter Tryz.func55, Tryz.ntmps55
    go_wp2_with (go_at_call 70; refine I.mono ?_; rintro e w' ⟨⟨q, rfl, hq⟩, hb⟩)
    go_ret
    exact ⟨by rw [← hq]; rfl, hb⟩

end Go.Proofs.YtaodckojinbdfaaGreatDoor

namespace Go.Proofs.YtaodckojinbdfaaGreatDoor
open Go.RowKit

theorem info39 : (Tryz.prog.info? 39).map (fun i => (i.zero, i.size, i.bytes)) = some (some (.agg #[.string ⟨#[]⟩, .int .i64 0, .int .i64 0, .int .i64 0, .int .i64 0, .int .i64 0, .int .i64 0, .int .i64 0, .int .i64 0, .int .i64 0]), 10, 88) := by kernel_rfl
theorem own_form {B e size n : Nat} {w : World} {v : Value} {xs : List Value} (h : w.ownsRow B e size v n xs) : ∃ a c, v = .slice a n c := by
  rcases h.2 with ⟨rfl, rfl⟩ | ⟨g, cap, cur, rfl, _⟩
  · exact ⟨none, 0, rfl⟩
  · exact ⟨_, _, rfl⟩

/-- No block of the type t is in S. -/
def Off (t : Nat) (S : Nat → Prop) (w : World) : Prop := ∀ (b : Nat) (cur : Array Value) (f : Nat × Nat), w.heap[b]? = some (.cells cur t f) → ¬ S b
theorem off_blk {w : World} {R t u : Nat} {cs : Array Value} (h : Blk w R t cs) (e : t ≠ u) : Off u (fun k => k = R) w := fun _ _ _ hb he => h.ne' hb e he.symm
theorem off_own {w : World} {B e size n u : Nat} {v : Value} {xs : List Value} (h : w.ownsRow B e size v n xs) (ne : e ≠ u) : Off u (fun k => v.ownBlock = some k) w := fun b _ _ hb he => by
  obtain ⟨cur, hc⟩ := owns_type h he
  exact hc.ne' hb ne rfl
section
variable {B : Nat} {S : Nat → Prop} {w w' : World} {v : Value}
theorem Blk.off {b t : Nat} {cs : Array Value} (h : Blk w b t cs) (k : Kept S w w') (o : Off t S w) : Blk w' b t cs := h.kept k (o b _ _ h)
theorem owns_off {e size n : Nat} {xs : List Value} (h : w.ownsRow B e size v n xs) (k : Kept S w w') (o : Off e S w) : w'.ownsRow B e size v n xs :=
  owns_kept h k (fun g hg => by obtain ⟨cur, hb⟩ := owns_type h hg; exact o g _ _ hb)
theorem RlOwn.off {rs : List Rl} (h : RlOwn B w v rs) (k : Kept S w w') (o9 : Off 9 S w) (o73 : Off 73 S w) : RlOwn B w' v rs := by
  obtain ⟨cs, ho, hr⟩ := h
  exact ⟨cs, owns_off ho k o73, RlsV.kept k o9 cs rs hr⟩
theorem ScOwn.off {ss : List Sc} {V : List Value} (h : ScOwn B w v ss V) (k : Kept S w w') (o9 : Off 9 S w) (o42 : Off 42 S w) (o73 : Off 73 S w) : ScOwn B w' v ss V :=
  ⟨h.len, owns_off h.own k o42, fun i hi hi' => (h.rls i hi hi').off k o9 o73⟩
theorem LvOwn.off {L : List Lv} (h : LvOwn B w v L) (k : Kept S w w') (o : Off 39 S w) : LvOwn B w' v L := owns_off h k o
theorem Rd.off {R A : Nat} {ws : List ByteArray} {e : Int} (h : Rd B w R A ws e) (k : Kept S w w') (o9 : Off 9 S w) (o48 : Off 48 S w) : Rd B w' R A ws e := by
  obtain ⟨a, c, hb, hr, hc⟩ := h.ex
  exact ⟨h.le, h.sh, a, c, hb.off k o48, hr.kept k o9, hc⟩
end
theorem grown_kept {w w8 : World} {o : Obj} {row : Option Nat} (h : (w.drew.alloc o).grownBy w8 row) : Kept (fun k => row = some k) w w8 :=
  ((Kept.refl (fun k => row = some k) w).drew.alloc o).trans (Kept.of_grown h (fun _ e => e))
theorem kt_set {B A : Nat} {w : World} {cs : Array Value} (h : Blk w A 26 cs) (hB : B ≤ A) (i : Nat) (v : Value) : KT B w (w.setCell ⟨A, i, none⟩ v) :=
  KT.of_kept ((Kept.refl (fun k => k = A) w).setCell ⟨A, i, none⟩ v (.inl rfl)) (Nat.le_trans hB (Nat.le_of_lt h.lt)) (fun j hj => by rw [hj]; exact hB) (off_blk h (by decide))
theorem kt_own {B e size n : Nat} {w w8 : World} {o : Obj} {v : Value} {xs : List Value} (hB : B ≤ w.heap.size) (h : w.ownsRow B e size v n xs) (ne : e ≠ 9) (hg : (w.drew.alloc o).grownBy w8 v.ownBlock) : KT B w w8 :=
  KT.of_kept (grown_kept hg) hB (fun j hj => (h.lt j hj).1) (off_own h ne)

/-- One more level. -/
theorem push_lv {B R A q cap : Nat} {w w7 w8 : World} {C : Cf} {ws : List ByteArray} {l : Lv} {o : Obj} {vL vS : Value} {V : List Value} (H : Rd B w7 R A ws 0) (hB : B ≤ A) (KW : KT B w w7)
    (hA : Blk w7 A 26 #[.int .i64 C.total, .int .i64 C.period, .int .i64 C.perSeat, .int .i64 C.most, vL, vS]) (hL : LvOwn B w7 vL C.levels) (hS : ScOwn B w7 vS C.schemas V) (hD : Dj V)
    (hown : w8.ownsRow B 39 10 (.slice (some ⟨q, 0, none⟩) (C.levels.length + 1) cap) (C.levels.length + 1) (lvCs C.levels ++ lvC l)) (hg : (w7.drew.alloc o).grownBy w8 vL.ownBlock) :
    Told B R A w (w8.setCell ⟨A, 4, none⟩ (.slice (some ⟨q, 0, none⟩) (C.levels.length + 1) cap)) 0 ⟨C.total, C.period, C.perSeat, C.most, C.levels ++ [l], C.schemas⟩ := by
  have k := grown_kept hg
  have H8 := H.off k (off_own hL (by decide)) (off_own hL (by decide))
  have A8 := hA.off k (off_own hL (by decide))
  have S8 := hS.off k (off_own hL (by decide)) (off_own hL (by decide)) (off_own hL (by decide))
  have k9 : Kept (fun k => k = A) w8 (w8.setCell ⟨A, 4, none⟩ (.slice (some ⟨q, 0, none⟩) (C.levels.length + 1) cap)) := (Kept.refl _ w8).setCell ⟨A, 4, none⟩ _ (.inl rfl)
  refine ⟨⟨ws, H8.other A8 (by decide) (by decide) 4 _⟩, fun _ => ⟨hB, .slice (some ⟨q, 0, none⟩) (C.levels.length + 1) cap, vS, V, A8.set 4 _, ?_, S8.off k9 (off_blk A8 (by decide)) (off_blk A8 (by decide)) (off_blk A8 (by decide)), hD⟩, KW.trans ((kt_own (Nat.le_trans hB (Nat.le_of_lt hA.lt)) hL (by decide) hg).trans (kt_set A8 hB 4 _))⟩
  have e : lvCs (C.levels ++ [l]) = lvCs C.levels ++ lvC l := by rw [lvCs_append]; simp [lvCs]
  unfold LvOwn
  dsimp only
  rw [e, List.length_append]
  exact owns_off hown k9 (off_blk A8 (by decide))

/-- One more schema. -/
theorem push_sc {B R A q cap : Nat} {w w7 w8 : World} {C : Cf} {ws : List ByteArray} {s : Sc} {o : Obj} {vL vS : Value} {V : List Value} (H : Rd B w7 R A ws 0) (hB : B ≤ A) (KW : KT B w w7) (hs : s.rules = [])
    (hA : Blk w7 A 26 #[.int .i64 C.total, .int .i64 C.period, .int .i64 C.perSeat, .int .i64 C.most, vL, vS]) (hL : LvOwn B w7 vL C.levels) (hS : ScOwn B w7 vS C.schemas V)
    (hown : w8.ownsRow B 42 5 (.slice (some ⟨q, 0, none⟩) (C.schemas.length + 1) cap) (C.schemas.length + 1) (scCs C.schemas V ++ scC s (.slice none 0 0))) (hg : (w7.drew.alloc o).grownBy w8 vS.ownBlock) :
    Told B R A w (w8.setCell ⟨A, 5, none⟩ (.slice (some ⟨q, 0, none⟩) (C.schemas.length + 1) cap)) 0 ⟨C.total, C.period, C.perSeat, C.most, C.levels, C.schemas ++ [s]⟩ := by
  have k := grown_kept hg
  have H8 := H.off k (off_own hS.own (by decide)) (off_own hS.own (by decide))
  have A8 := hA.off k (off_own hS.own (by decide))
  have L8 := hL.off k (off_own hS.own (by decide))
  have k9 : Kept (fun k => k = A) w8 (w8.setCell ⟨A, 5, none⟩ (.slice (some ⟨q, 0, none⟩) (C.schemas.length + 1) cap)) := (Kept.refl _ w8).setCell ⟨A, 5, none⟩ _ (.inl rfl)
  refine ⟨⟨ws, H8.other A8 (by decide) (by decide) 5 _⟩, fun _ => ⟨hB, vL, .slice (some ⟨q, 0, none⟩) (C.schemas.length + 1) cap, V ++ [.slice none 0 0], A8.set 5 _, L8.off k9 (off_blk A8 (by decide)), ⟨?_, ?_, ?_⟩, ?_⟩, KW.trans ((kt_own (Nat.le_trans hB (Nat.le_of_lt hA.lt)) hS.own (by decide) hg).trans (kt_set A8 hB 5 _))⟩
  · simp [hS.len]
  · dsimp only
    rw [scCs_append _ _ _ _ hS.len, List.length_append]
    exact owns_off hown k9 (off_blk A8 (by decide))
  · intro i hi hi'
    by_cases c : i < C.schemas.length
    · have cV : i < V.length := by rw [hS.len]; exact c
      dsimp only
      rw [List.getElem_append_left c, List.getElem_append_left cV]
      exact ((hS.rls i c cV).off k (off_own hS.own (by decide)) (off_own hS.own (by decide))).off k9 (off_blk A8 (by decide)) (off_blk A8 (by decide))
    · obtain rfl : i = C.schemas.length := by simp at hi; omega
      have e1 : (C.schemas ++ [s])[C.schemas.length] = s := by simp
      have e2 : (V ++ [(.slice none 0 0 : Value)])[C.schemas.length]'hi' = .slice none 0 0 := by
        rw [List.getElem_append_right (by rw [hS.len]; exact Nat.le_refl _)]
        simp
      dsimp only
      rw [e1, e2, hs]
      exact ⟨[], World.ownsRow_nil _ _ _ _, rfl⟩
  · intro v hv
    rw [List.getLast?_append] at hv
    simp at hv
    subst hv
    exact .inl rfl

end Go.Proofs.YtaodckojinbdfaaGreatDoor

namespace Go.Proofs.YtaodckojinbdfaaGreatDoor
open Go.RowKit

/-- A configuration as a value. -/
def CfV (B : Nat) (w : World) (v : Value) (C : Cf) : Prop :=
  ∃ vL vS V, v = .agg #[.int .i64 C.total, .int .i64 C.period, .int .i64 C.perSeat, .int .i64 C.most, vL, vS] ∧ LvOwn B w vL C.levels ∧ ScOwn B w vS C.schemas V
theorem info42 : (Tryz.prog.info? 42).map (fun i => (i.zero, i.size, i.bytes)) = some (some (.agg #[.string ⟨#[]⟩, .string ⟨#[]⟩, .int .i64 0, .int .i64 0, .slice none 0 0]), 5, 72) := by kernel_rfl
theorem cfv_zero (B : Nat) (w : World) : CfV B w (.agg #[.int .i64 0, .int .i64 0, .int .i64 0, .int .i64 0, .slice none 0 0, .slice none 0 0]) cf0 :=
  ⟨_, _, [], rfl, World.ownsRow_nil _ _ _ _, ⟨rfl, World.ownsRow_nil _ _ _ _, fun _ h => absurd h (Nat.not_lt_zero _)⟩⟩

theorem Lst.mono {B B' : Nat} {w : World} {v : Value} {L : List ByteArray} (h : Lst B w v L) (k : B' ≤ B) : Lst B' w v L := by
  obtain ⟨a, c, e, hr, hc⟩ := h
  exact ⟨a, c, e, hr.mono k, hc⟩
theorem RlV.mono {B B' : Nat} {w : World} {cs : List Value} {r : Rl} (h : RlV B w cs r) (k : B' ≤ B) : RlV B' w cs r := by
  obtain ⟨v0, v1, v2, v3, v4, e, h0, h1, h2, h3, h4⟩ := h
  exact ⟨v0, v1, v2, v3, v4, e, h0.mono k, h1.mono k, h2.mono k, h3.mono k, h4.mono k⟩
theorem RlsV.mono {B B' : Nat} {w : World} (k : B' ≤ B) : ∀ (cs : List Value) (rs : List Rl), RlsV B w cs rs → RlsV B' w cs rs
  | _, [], h => h
  | _, _ :: rs, ⟨c, cs', e, hr, ht⟩ => ⟨c, cs', e, hr.mono k, RlsV.mono k cs' rs ht⟩
theorem ScOwn.mono {B B' : Nat} {w : World} {v : Value} {ss : List Sc} {V : List Value} (h : ScOwn B w v ss V) (k : B' ≤ B) : ScOwn B' w v ss V :=
  ⟨h.len, owns_mono h.own k, fun i hi hi' => by obtain ⟨cs, ho, hr⟩ := h.rls i hi hi'; exact ⟨cs, owns_mono ho k, RlsV.mono k cs _ hr⟩⟩

end Go.Proofs.YtaodckojinbdfaaGreatDoor
