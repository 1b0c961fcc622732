/-
  How the reader of a line and a configuration lie in memory; what stays when one of them is written.
  How a configuration lies in memory.
-/
import Derived.Test.YtijjpblmnlednaaGreatDoorE3
import Derived.Below
import Derived.Laws.Rows
import Derived.OwnWalk
import Derived.Deep.AppendLies
import Derived.Laws.AppendOwnNone
namespace Go.Proofs.YtijjpblmnlednaaGreatDoor
open Go.RowKit
/-- Nothing that was there has turned but the blocks of S. -/
structure Kept (S : Nat → Prop) (w w' : World) : Prop where
  os : w'.os = w.os
  tape : w'.tape = w.tape
  output : w'.output = w.output
  size : w.heap.size ≤ w'.heap.size
  block : ∀ k, k < w.heap.size → ¬ S k → w'.heap[k]? = w.heap[k]?

theorem Kept.refl (S : Nat → Prop) (w : World) : Kept S w w := ⟨rfl, rfl, rfl, Nat.le_refl _, fun _ _ _ => rfl⟩
theorem Kept.trans {S : Nat → Prop} {a b c : World} (h : Kept S a b) (k : Kept S b c) : Kept S a c :=
  ⟨k.os.trans h.os, k.tape.trans h.tape, k.output.trans h.output, Nat.le_trans h.size k.size, fun i hi hn => (k.block i (Nat.lt_of_lt_of_le hi h.size) hn).trans (h.block i hi hn)⟩
theorem Kept.mono {S T : Nat → Prop} {w w' : World} (h : Kept S w w') (e : ∀ k, k < w.heap.size → S k → T k) : Kept T w w' :=
  ⟨h.os, h.tape, h.output, h.size, fun k hk hn => h.block k hk fun hs => hn (e k hk hs)⟩
theorem Kept.then {S T : Nat → Prop} {a b c : World} (h : Kept S a b) (k : Kept T b c) (e : ∀ j, j < a.heap.size → T j → S j) : Kept S a c :=
  ⟨k.os.trans h.os, k.tape.trans h.tape, k.output.trans h.output, Nat.le_trans h.size k.size, fun i hi hn => (k.block i (Nat.lt_of_lt_of_le hi h.size) fun ht => hn (e i hi ht)).trans (h.block i hi hn)⟩
theorem Kept.of_below {w w' : World} (h : Below w.heap.size w w') (S : Nat → Prop) : Kept S w w' := ⟨h.os, h.tape, h.output, h.size, fun k hk _ => h.block k hk⟩
theorem Kept.below {S : Nat → Prop} {B : Nat} {w w' : World} (h : Kept S w w') (hB : B ≤ w.heap.size) (e : ∀ k, S k → B ≤ k) : Below B w w' :=
  ⟨h.os, h.tape, h.output, h.size, fun k hk => h.block k (Nat.lt_of_lt_of_le hk hB) fun hs => by have := e k hs; omega⟩
theorem Kept.of_grown {S : Nat → Prop} {w w' : World} {row : Option Nat} (h : w.grownBy w' row) (e : ∀ k, row = some k → S k) : Kept S w w' :=
  ⟨h.os, h.tape, h.output, h.size, fun k hk hn => h.block k hk fun er => hn (e k er.symm)⟩
theorem Kept.alloc {S : Nat → Prop} {a w : World} (h : Kept S a w) (o : Obj) : Kept S a (w.alloc o) := h.trans (Kept.of_below ((Below.refl _ _).alloc (Nat.le_refl _) _) S)
theorem Kept.drew {S : Nat → Prop} {a w : World} (h : Kept S a w) : Kept S a w.drew := ⟨h.os, h.tape, h.output, h.size, h.block⟩
theorem Kept.setCell {S : Nat → Prop} {a w : World} (h : Kept S a w) (p : Addr) (v : Value) (hp : S p.block ∨ a.heap.size ≤ p.block) : Kept S a (w.setCell p v) :=
  ⟨h.os, h.tape, h.output, by simpa using h.size, fun k hk hn => (Below.heap_setCell _ _ _ _ (fun e => hp.elim (fun hp => hn (by rw [e]; exact hp)) (fun hp => by omega))).trans (h.block k hk hn)⟩

/-- A block of cells of the type t, which may be written. -/
def Blk (w : World) (b t : Nat) (cs : Array Value) : Prop := w.heap[b]? = some (.cells cs t (0, 0))
theorem Blk.lt {w : World} {b t : Nat} {cs : Array Value} (h : Blk w b t cs) : b < w.heap.size := by
  unfold Blk at h
  rcases Nat.lt_or_ge b w.heap.size with h1 | h1
  · exact h1
  · rw [Array.getElem?_eq_none h1] at h; cases h
theorem Blk.cell {w : World} {b t : Nat} {cs : Array Value} (h : Blk w b t cs) (i : Nat) : w.cell? ⟨b, i, none⟩ = cs[i]? := by
  unfold Blk at h; simp [World.cell?, h]
theorem Blk.cellv {w : World} {b t : Nat} {cs : Array Value} (h : Blk w b t cs) (i : Nat) {v : Value} (hv : cs[i]? = some v) : w.cell? ⟨b, i, none⟩ = some v := (h.cell i).trans hv
theorem Blk.frozen {w : World} {b t : Nat} {cs : Array Value} (h : Blk w b t cs) (i : Nat) : w.frozen? ⟨b, i, none⟩ = false := by
  unfold Blk at h; simp [World.frozen?, h]
theorem Blk.kept {S : Nat → Prop} {w w' : World} {b t : Nat} {cs : Array Value} (h : Blk w b t cs) (k : Kept S w w') (hS : ¬ S b) : Blk w' b t cs := (k.block b h.lt hS).trans h
theorem Blk.set {w : World} {b t : Nat} {cs : Array Value} (h : Blk w b t cs) (i : Nat) (v : Value) : Blk (w.setCell ⟨b, i, none⟩ v) b t (cs.setIfInBounds i v) := heap_setCell_same w b i cs t v h
theorem Blk.other {w : World} {b t : Nat} {cs : Array Value} (h : Blk w b t cs) {p : Addr} (hp : b ≠ p.block) (v : Value) : Blk (w.setCell p v) b t cs := (Below.heap_setCell _ _ _ _ hp).trans h
theorem Blk.new (w : World) (t : Nat) (cs : Array Value) : Blk (w.alloc (.cells cs t)) w.heap.size t cs := by
  unfold Blk; show (w.heap.push _)[_]? = _; simp
theorem Blk.ne {w : World} {b b' t t' : Nat} {cs cs' : Array Value} (h : Blk w b t cs) (h' : Blk w b' t' cs') (e : t ≠ t') : b ≠ b' := fun he => by
  subst he; unfold Blk at h h'; rw [h] at h'; cases h'; exact e rfl
theorem Blk.ne' {w : World} {b b' t t' : Nat} {cs cs' : Array Value} {f : Nat × Nat} (h : Blk w b t cs) (h' : w.heap[b']? = some (.cells cs' t' f)) (e : t ≠ t') : b ≠ b' := fun he => by
  subst he; unfold Blk at h; rw [h] at h'; cases h'; exact e rfl

/-- A list of texts lies in memory, from B on. -/
def RowY (B : Nat) (w : World) (a : Option Addr) (L : List ByteArray) : Prop :=
  0 < L.length → ∃ b off cur f, a = some ⟨b, off, none⟩ ∧ B ≤ b ∧ w.heap[b]? = some (.cells cur 9 f) ∧ ∀ k, k < L.length → cur[off + k]? = some (.string (gt L k))
theorem RowY.row {B : Nat} {w : World} {a : Option Addr} {L : List ByteArray} (h : RowY B w a L) : RowL w a L := fun hn => by
  obtain ⟨b, off, cur, f, e, _, hb, hc⟩ := h hn
  refine ⟨b, off, e, ?_, fun k hk => ?_⟩
  · rcases Nat.lt_or_ge b w.heap.size with h1 | h1
    · exact h1
    · rw [Array.getElem?_eq_none h1] at hb; cases hb
  · simp [World.cell?, hb, hc k hk]
theorem RowY.kept {B : Nat} {S : Nat → Prop} {w w' : World} {a : Option Addr} {L : List ByteArray} (h : RowY B w a L) (k : Kept S w w') (hS : ∀ b cur f, w.heap[b]? = some (.cells cur 9 f) → ¬ S b) : RowY B w' a L := fun hn => by
  obtain ⟨b, off, cur, f, e, hB, hb, hc⟩ := h hn
  refine ⟨b, off, cur, f, e, hB, (k.block b ?_ (hS b cur f hb)).trans hb, hc⟩
  rcases Nat.lt_or_ge b w.heap.size with h1 | h1
  · exact h1
  · rw [Array.getElem?_eq_none h1] at hb; cases hb
theorem RowY.below {B : Nat} {w w' : World} {a : Option Addr} {L : List ByteArray} (h : RowY B w a L) (k : Below w.heap.size w w') : RowY B w' a L := h.kept (Kept.of_below k (fun _ => False)) (fun _ _ _ _ => id)
theorem RowY.mono {B B' : Nat} {w : World} {a : Option Addr} {L : List ByteArray} (h : RowY B w a L) (k : B' ≤ B) : RowY B' w a L := fun hn => by
  obtain ⟨b, off, cur, f, e, hB, r⟩ := h hn
  exact ⟨b, off, cur, f, e, Nat.le_trans k hB, r⟩
theorem RowY.nil (B : Nat) (w : World) (a : Option Addr) : RowY B w a [] := fun h => absurd h (Nat.lt_irrefl 0)
theorem RowY.tail {B : Nat} {w : World} {b off : Nat} {L : List ByteArray} (h : RowY B w (some ⟨b, off, none⟩) L) : RowY B w (some ⟨b, off + 1, none⟩) L.tail := fun hn => by
  obtain ⟨b', off', cur, f, e, hB, hb, hc⟩ := h (by rw [List.length_tail] at hn; omega)
  cases e
  refine ⟨b, off + 1, cur, f, rfl, hB, hb, fun k hk => ?_⟩
  rw [List.length_tail] at hk
  rw [gt_tail, show off + 1 + k = off + (k + 1) by omega]
  exact hc (k + 1) (by omega)

/-- The reader of a line: the words that are left, the configuration at A, the error. -/
structure Rd (B : Nat) (w : World) (R A : Nat) (ws : List ByteArray) (e : Int) : Prop where
  le : B ≤ R
  sh : ∀ k, (gt ws k).size ≤ 65536
  ex : ∃ a c, Blk w R 55 #[.slice a ws.length c, .pointer (some ⟨A, 0, none⟩), .int .i64 e] ∧ RowY B w a ws ∧ ws.length ≤ c ∧ ws.length ≤ 65536
section
variable {B R A : Nat} {w w' : World} {ws : List ByteArray} {e : Int}
theorem Rd.lt (h : Rd B w R A ws e) : R < w.heap.size := by obtain ⟨_, _, hb, _⟩ := h.ex; exact hb.lt
theorem Rd.below (h : Rd B w R A ws e) (k : Kept (fun j => j = R) w w') : Below B w w' := k.below (Nat.le_trans h.le (Nat.le_of_lt h.lt)) (fun j hj => by rw [hj]; exact h.le)
theorem Rd.grown (h : Rd B w R A ws e) (k : Below w.heap.size w w') : Rd B w' R A ws e := by
  obtain ⟨a, c, hb, hr, hc⟩ := h.ex
  exact ⟨h.le, h.sh, a, c, hb.kept (Kept.of_below k (fun _ => False)) id, hr.below k, hc⟩
/-- A store into another block. -/
theorem Rd.other (h : Rd B w R A ws e) {g t : Nat} {cs : Array Value} (hg : Blk w g t cs) (h9 : t ≠ 9) (h48 : t ≠ 55) (i : Nat) (v : Value) : Rd B (w.setCell ⟨g, i, none⟩ v) R A ws e := by
  obtain ⟨a, c, hb, hr, hc⟩ := h.ex
  refine ⟨h.le, h.sh, a, c, hb.other (fun e => hg.ne hb h48 e.symm) v, hr.kept ((Kept.refl (fun k => k = g) w).setCell ⟨g, i, none⟩ v (.inl rfl)) (fun b cur f hb' => ?_), hc⟩
  intro e
  exact hg.ne' hb' h9 e.symm
end

theorem kept_set {w : World} {R : Nat} (i : Nat) (v : Value) : Kept (fun k => k = R) w (w.setCell ⟨R, i, none⟩ v) := (Kept.refl _ w).setCell ⟨R, i, none⟩ v (.inl rfl)

/-- The reader with another error. -/
theorem Rd.err {B R A : Nat} {w : World} {ws : List ByteArray} {e : Int} (h : Rd B w R A ws e) (e' : Int) : Rd B (w.setCell ⟨R, 2, none⟩ (.int .i64 e')) R A ws e' := by
  obtain ⟨a, c, hb, hr, hc⟩ := h.ex
  exact ⟨h.le, h.sh, a, c, hb.set 2 _, hr.kept (kept_set 2 _) (fun b cur f hb' e => hb.ne' hb' (by decide) e.symm), hc⟩
/-- The reader behind one word. -/
theorem Rd.next {B R A : Nat} {w : World} {ws : List ByteArray} {e : Int} (h : Rd B w R A ws e) {b off c : Nat} (hb : Blk w R 55 #[.slice (some ⟨b, off, none⟩) ws.length c, .pointer (some ⟨A, 0, none⟩), .int .i64 e])
    (hr : RowY B w (some ⟨b, off, none⟩) ws) (hc : ws.length ≤ c) (h6 : ws.length ≤ 65536) : Rd B (w.setCell ⟨R, 0, none⟩ (.slice (some ⟨b, off + 1, none⟩) ws.tail.length (c - 1))) R A ws.tail e := by
  refine ⟨h.le, fun k => by rw [gt_tail]; exact h.sh _, some ⟨b, off + 1, none⟩, c - 1, hb.set 0 _, hr.tail.kept (kept_set 0 _) (fun b' cur f hb' e => hb.ne' hb' (by decide) e.symm), ?_, ?_⟩ <;> rw [List.length_tail] <;> omega
/-- .. where none is left. -/
theorem Rd.next0 {B R A : Nat} {w : World} {ws : List ByteArray} {e : Int} (h : Rd B w R A ws e) {v : Value} {a : Option Addr} (hb : Blk w R 55 #[v, .pointer (some ⟨A, 0, none⟩), .int .i64 e]) : Rd B (w.setCell ⟨R, 0, none⟩ (.slice a 0 0)) R A [] e :=
  ⟨h.le, fun k => by unfold gt; simp; exact Nat.zero_le _, a, 0, hb.set 0 _, RowY.nil _ _ _, Nat.le_refl _, Nat.zero_le _⟩
/-- A level's ten cells. -/
def lvC (l : Lv) : List Value := [.string l.name, .int .i64 l.kind, .int .i64 l.shares, .int .i64 l.lend, .int .i64 l.borrow, .int .i64 l.queues, .int .i64 l.hand, .int .i64 l.length, .int .i64 l.wait, .int .i64 l.guess]
def lvCs : List Lv → List Value
  | [] => []
  | l :: L => lvC l ++ lvCs L
theorem lvCs_len : ∀ L, (lvCs L).length = L.length * 10
  | [] => rfl
  | l :: L => by simp [lvCs, lvC, lvCs_len L]; omega
theorem lvCs_append : ∀ A B, lvCs (A ++ B) = lvCs A ++ lvCs B
  | [], B => rfl
  | x :: A, B => by simp [lvCs, lvCs_append A B]
theorem lvCs_at : ∀ (L : List Lv) (i j : Nat) (h : i < L.length), j < 10 → (lvCs L)[i * 10 + j]? = (lvC L[i])[j]?
  | [], i, j, h, _ => by simp at h
  | x :: L, 0, j, _, hj => by
    simp only [lvCs, Nat.zero_mul, Nat.zero_add]
    rw [List.getElem?_append_left (by simpa [lvC] using hj)]
    rfl
  | x :: L, i + 1, j, h, hj => by
    have := lvCs_at L i j (by simpa using h) hj
    simp only [lvCs]
    rw [List.getElem?_append_right (by simp [lvC]; omega), show (i + 1) * 10 + j - (lvC x).length = i * 10 + j by simp [lvC]; omega]
    simpa using this

def LvOwn (B : Nat) (w : World) (v : Value) (L : List Lv) : Prop := w.ownsRow B 45 10 v L.length (lvCs L)

/-- v is a slice of texts, which lie in memory from B on. -/
def Lst (B : Nat) (w : World) (v : Value) (L : List ByteArray) : Prop := ∃ a c, v = .slice a L.length c ∧ RowY B w a L ∧ L.length ≤ c ∧ L.length ≤ 65536
/-- A rule's five cells. -/
def RlV (B : Nat) (w : World) (cs : List Value) (r : Rl) : Prop :=
  ∃ v0 v1 v2 v3 v4, cs = [v0, v1, v2, v3, v4] ∧ Lst B w v0 r.users ∧ Lst B w v1 r.groups ∧ Lst B w v2 r.verbs ∧ Lst B w v3 r.resources ∧ Lst B w v4 r.spaces
def RlsV (B : Nat) (w : World) : List Value → List Rl → Prop
  | cs, [] => cs = []
  | cs, r :: rs => ∃ c cs', cs = c ++ cs' ∧ RlV B w c r ∧ RlsV B w cs' rs
def RlOwn (B : Nat) (w : World) (v : Value) (rs : List Rl) : Prop := ∃ cs, w.ownsRow B 50 5 v rs.length cs ∧ RlsV B w cs rs
/-- The schemas' cells, V: the slices of their rules. -/
def scC (s : Sc) (v : Value) : List Value := [.string s.name, .string s.level, .int .i64 s.rank, .int .i64 s.way, v]
def scCs : List Sc → List Value → List Value
  | s :: ss, v :: vs => scC s v ++ scCs ss vs
  | _, _ => []
structure ScOwn (B : Nat) (w : World) (v : Value) (ss : List Sc) (V : List Value) : Prop where
  len : V.length = ss.length
  own : w.ownsRow B 53 5 v ss.length (scCs ss V)
  rls : ∀ k (h : k < ss.length) (h' : k < V.length), RlOwn B w V[k] ss[k].rules

/-! ### what stays -/
section
variable {B : Nat} {S : Nat → Prop} {w w' : World} {v : Value}
theorem owns_kept {e size n : Nat} {xs : List Value} (h : w.ownsRow B e size v n xs) (k : Kept S w w') (hS : ∀ g, v.ownBlock = some g → ¬ S g) : w'.ownsRow B e size v n xs := by
  have hl := h.lt
  obtain ⟨h1, h2⟩ := h
  refine ⟨h1, h2.imp id ?_⟩
  rintro ⟨g, cap, cur, rfl, hb, hg, r⟩
  exact ⟨g, cap, cur, rfl, hb, (k.block g (hl g rfl).2 (hS g rfl)).trans hg, r⟩
/-- The row's block bears its type. -/
theorem owns_type {e size n g : Nat} {xs : List Value} (h : w.ownsRow B e size v n xs) (hg : v.ownBlock = some g) : ∃ cur, Blk w g e cur := by
  rcases h.2 with ⟨rfl, _⟩ | ⟨g', cap, cur, rfl, _, hb, _⟩
  · cases hg
  · cases hg
    exact ⟨cur, hb⟩
theorem owns_mono {B' e size n : Nat} {xs : List Value} (h : w.ownsRow B e size v n xs) (k : B' ≤ B) : w.ownsRow B' e size v n xs := by
  obtain ⟨h1, h2⟩ := h
  refine ⟨h1, h2.imp id ?_⟩
  rintro ⟨g, cap, cur, rfl, hb, r⟩
  exact ⟨g, cap, cur, rfl, Nat.le_trans k hb, r⟩
theorem Lst.kept {L : List ByteArray} (h : Lst B w v L) (k : Kept S w w') (hS : ∀ b cur f, w.heap[b]? = some (.cells cur 9 f) → ¬ S b) : Lst B w' v L := by
  obtain ⟨a, c, e, hr, hc⟩ := h
  exact ⟨a, c, e, hr.kept k hS, hc⟩
theorem RlV.kept {cs : List Value} {r : Rl} (h : RlV B w cs r) (k : Kept S w w') (hS : ∀ b cur f, w.heap[b]? = some (.cells cur 9 f) → ¬ S b) : RlV B w' cs r := by
  obtain ⟨v0, v1, v2, v3, v4, e, h0, h1, h2, h3, h4⟩ := h
  exact ⟨v0, v1, v2, v3, v4, e, h0.kept k hS, h1.kept k hS, h2.kept k hS, h3.kept k hS, h4.kept k hS⟩
theorem RlsV.kept (k : Kept S w w') (hS : ∀ b cur f, w.heap[b]? = some (.cells cur 9 f) → ¬ S b) : ∀ (cs : List Value) (rs : List Rl), RlsV B w cs rs → RlsV B w' cs rs
  | _, [], h => h
  | _, _ :: rs, ⟨c, cs', e, hr, ht⟩ => ⟨c, cs', e, hr.kept k hS, RlsV.kept k hS cs' rs ht⟩
theorem RlOwn.kept {rs : List Rl} (h : RlOwn B w v rs) (k : Kept S w w') (hS : ∀ b cur f, w.heap[b]? = some (.cells cur 9 f) → ¬ S b) (hv : ∀ g, v.ownBlock = some g → ¬ S g) : RlOwn B w' v rs := by
  obtain ⟨cs, ho, hr⟩ := h
  exact ⟨cs, owns_kept ho k hv, RlsV.kept k hS cs rs hr⟩
/-- No block of the types of a configuration is in S. -/
structure Free (S : Nat → Prop) (w : World) : Prop where
  s9 : ∀ (b : Nat) (cur : Array Value) (f : Nat × Nat), w.heap[b]? = some (.cells cur 9 f) → ¬ S b
  s26 : ∀ b cur, Blk w b 25 cur → ¬ S b
  s39 : ∀ b cur, Blk w b 45 cur → ¬ S b
  s42 : ∀ b cur, Blk w b 53 cur → ¬ S b
  s73 : ∀ b cur, Blk w b 50 cur → ¬ S b
theorem RlOwn.free {rs : List Rl} (h : RlOwn B w v rs) (k : Kept S w w') (f : Free S w) : RlOwn B w' v rs := by
  refine h.kept k f.s9 (fun g hg => ?_)
  obtain ⟨cs, ho, _⟩ := h
  obtain ⟨cur, hb⟩ := owns_type ho hg
  exact f.s73 g cur hb
theorem ScOwn.free {ss : List Sc} {V : List Value} (h : ScOwn B w v ss V) (k : Kept S w w') (f : Free S w) : ScOwn B w' v ss V :=
  ⟨h.len, owns_kept h.own k (fun g hg => by obtain ⟨cur, hb⟩ := owns_type h.own hg; exact f.s42 g cur hb), fun i hi hi' => (h.rls i hi hi').free k f⟩
theorem LvOwn.free {L : List Lv} (h : LvOwn B w v L) (k : Kept S w w') (f : Free S w) : LvOwn B w' v L :=
  owns_kept h k (fun g hg => by obtain ⟨cur, hb⟩ := owns_type h hg; exact f.s39 g cur hb)
end
theorem free_of_blk {w : World} {R t : Nat} {cs : Array Value} (h : Blk w R t cs) (h9 : t ≠ 9) (h26 : t ≠ 25) (h39 : t ≠ 45) (h42 : t ≠ 53) (h73 : t ≠ 50) : Free (fun k => k = R) w :=
  ⟨fun _ _ _ hb e => h.ne' hb h9 e.symm, fun _ _ hb e => h.ne hb h26 e.symm, fun _ _ hb e => h.ne hb h39 e.symm, fun _ _ hb e => h.ne hb h42 e.symm, fun _ _ hb e => h.ne hb h73 e.symm⟩
theorem Rd.free {B R A : Nat} {w : World} {ws : List ByteArray} {e : Int} (h : Rd B w R A ws e) : Free (fun k => k = R) w := by
  obtain ⟨a, c, hb, _⟩ := h.ex
  exact free_of_blk hb (by decide) (by decide) (by decide) (by decide) (by decide)

/-- The rules of the schema that was told last lie in a block of their own. -/
def Dj (V : List Value) : Prop := ∀ v, V.getLast? = some v → v.ownBlock = none ∨ ∀ u ∈ V.dropLast, u.ownBlock ≠ v.ownBlock

/-- A configuration, in the six cells at A. -/
structure Cfg (B : Nat) (w : World) (A : Nat) (C : Cf) : Prop where
  le : B ≤ A
  ex : ∃ vL vS V, Blk w A 25 #[.int .i64 C.total, .int .i64 C.period, .int .i64 C.perSeat, .int .i64 C.most, vL, vS] ∧ LvOwn B w vL C.levels ∧ ScOwn B w vS C.schemas V ∧ Dj V
theorem Cfg.free {B A : Nat} {S : Nat → Prop} {w w' : World} {C : Cf} (h : Cfg B w A C) (k : Kept S w w') (f : Free S w) : Cfg B w' A C := by
  obtain ⟨vL, vS, V, hb, hl, hs, hd⟩ := h.ex
  exact ⟨h.le, vL, vS, V, hb.kept k (f.s26 A _ hb), hl.free k f, hs.free k f, hd⟩
theorem Cfg.grown {B A : Nat} {w w' : World} {C : Cf} (h : Cfg B w A C) (k : Below w.heap.size w w') : Cfg B w' A C :=
  h.free (Kept.of_below k (fun _ => False)) ⟨fun _ _ _ _ => id, fun _ _ _ => id, fun _ _ _ => id, fun _ _ _ => id, fun _ _ _ => id⟩

/-- From B on nothing but blocks of texts is as it was. -/
structure KT (B : Nat) (w w' : World) : Prop where
  below : Below B w w'
  ty : ∀ (k : Nat) (cur : Array Value) (f : Nat × Nat), w.heap[k]? = some (.cells cur 9 f) → w'.heap[k]? = some (.cells cur 9 f)
theorem KT.refl (B : Nat) (w : World) : KT B w w := ⟨Below.refl _ _, fun _ _ _ h => h⟩
theorem KT.trans {B : Nat} {a b c : World} (h : KT B a b) (k : KT B b c) : KT B a c := ⟨h.below.trans k.below, fun i cur f hi => k.ty i cur f (h.ty i cur f hi)⟩
theorem KT.of_kept {B : Nat} {S : Nat → Prop} {w w' : World} (k : Kept S w w') (hB : B ≤ w.heap.size) (e : ∀ j, S j → B ≤ j) (h9 : ∀ b cur f, w.heap[b]? = some (.cells cur 9 f) → ¬ S b) : KT B w w' := by
  refine ⟨k.below hB e, fun i cur f hi => (k.block i ?_ (h9 i cur f hi)).trans hi⟩
  rcases Nat.lt_or_ge i w.heap.size with h1 | h1
  · exact h1
  · rw [Array.getElem?_eq_none h1] at hi; cases hi
theorem KT.of_grown {B : Nat} {w w' : World} (k : Below w.heap.size w w') (hB : B ≤ w.heap.size) : KT B w w' := KT.of_kept (Kept.of_below k (fun _ => False)) hB (fun _ h => h.elim) (fun _ _ _ _ => id)
theorem Rd.kt {B R A : Nat} {w w' : World} {ws : List ByteArray} {e : Int} (h : Rd B w R A ws e) (k : Kept (fun j => j = R) w w') : KT B w w' :=
  KT.of_kept k (Nat.le_trans h.le (Nat.le_of_lt h.lt)) (fun j hj => by rw [hj]; exact h.le) h.free.s9
theorem RowY.kt {B B' : Nat} {w w' : World} {a : Option Addr} {L : List ByteArray} (h : RowY B w a L) (k : KT B' w w') : RowY B w' a L := fun hn => by
  obtain ⟨b, off, cur, f, e, hB, hb, hc⟩ := h hn
  exact ⟨b, off, cur, f, e, hB, k.ty b cur f hb, hc⟩
end Go.Proofs.YtijjpblmnlednaaGreatDoor
