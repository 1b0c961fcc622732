/-
  How a configuration lies in memory.
-/
import Derived.Test.YtlkoaldekmdcoaaGreatDoorMem
namespace Go.Proofs.YtlkoaldekmdcoaaGreatDoor
open Go.RowKit

/-- A level's ten cells. -/
def lvC (l : Lv) : List Value := [.string l.name, .int .i64 l.kind, .int .i64 l.shares, .int .i64 l.lend, .int .i64 l.borrow, .int .i64 l.queues, .int .i64 l.hand, .int .i64 l.length, .int .i64 l.wait, .int .i64 l.guess]
def lvCs : List Lv → List Value
  | [] => []
  | l :: L => lvC l ++ lvCs L
theorem lvCs_len : ∀ L, (lvCs L).length = L.length * 10
  | [] => rfl
  | l :: L => by simp [lvCs, lvC, lvCs_len L]; omega
theorem lvCs_append : ∀ A B, lvCs (A ++ B) = lvCs A ++ lvCs B
  | [], B => rfl
  | x :: A, B => by simp [lvCs, lvCs_append A B]
theorem lvCs_at : ∀ (L : List Lv) (i j : Nat) (h : i < L.length), j < 10 → (lvCs L)[i * 10 + j]? = (lvC L[i])[j]?
  | [], i, j, h, _ => by simp at h
  | x :: L, 0, j, _, hj => by
    simp only [lvCs, Nat.zero_mul, Nat.zero_add]
    rw [List.getElem?_append_left (by simpa [lvC] using hj)]
    rfl
  | x :: L, i + 1, j, h, hj => by
    have := lvCs_at L i j (by simpa using h) hj
    simp only [lvCs]
    rw [List.getElem?_append_right (by simp [lvC]; omega), show (i + 1) * 10 + j - (lvC x).length = i * 10 + j by simp [lvC]; omega]
    simpa using this

def LvOwn (B : Nat) (w : World) (v : Value) (L : List Lv) : Prop := w.ownsRow B 40 10 v L.length (lvCs L)

/-- v is a slice of texts, which lie in memory from B on. -/
def Lst (B : Nat) (w : World) (v : Value) (L : List ByteArray) : Prop := ∃ a c, v = .slice a L.length c ∧ RowY B w a L ∧ L.length ≤ c ∧ L.length ≤ 65536
/-- A rule's five cells. -/
def RlV (B : Nat) (w : World) (cs : List Value) (r : Rl) : Prop :=
  ∃ v0 v1 v2 v3 v4, cs = [v0, v1, v2, v3, v4] ∧ Lst B w v0 r.users ∧ Lst B w v1 r.groups ∧ Lst B w v2 r.verbs ∧ Lst B w v3 r.resources ∧ Lst B w v4 r.spaces
def RlsV (B : Nat) (w : World) : List Value → List Rl → Prop
  | cs, [] => cs = []
  | cs, r :: rs => ∃ c cs', cs = c ++ cs' ∧ RlV B w c r ∧ RlsV B w cs' rs
def RlOwn (B : Nat) (w : World) (v : Value) (rs : List Rl) : Prop := ∃ cs, w.ownsRow B 51 5 v rs.length cs ∧ RlsV B w cs rs
/-- The schemas' cells, V: the slices of their rules. -/
def scC (s : Sc) (v : Value) : List Value := [.string s.name, .string s.level, .int .i64 s.rank, .int .i64 s.way, v]
def scCs : List Sc → List Value → List Value
  | s :: ss, v :: vs => scC s v ++ scCs ss vs
  | _, _ => []
structure ScOwn (B : Nat) (w : World) (v : Value) (ss : List Sc) (V : List Value) : Prop where
  len : V.length = ss.length
  own : w.ownsRow B 46 5 v ss.length (scCs ss V)
  rls : ∀ k (h : k < ss.length) (h' : k < V.length), RlOwn B w V[k] ss[k].rules

/-! ### what stays -/
section
variable {B : Nat} {S : Nat → Prop} {w w' : World} {v : Value}
theorem owns_kept {e size n : Nat} {xs : List Value} (h : w.ownsRow B e size v n xs) (k : Kept S w w') (hS : ∀ g, v.ownBlock = some g → ¬ S g) : w'.ownsRow B e size v n xs := by
  have hl := h.lt
  obtain ⟨h1, h2⟩ := h
  refine ⟨h1, h2.imp id ?_⟩
  rintro ⟨g, cap, cur, rfl, hb, hg, r⟩
  exact ⟨g, cap, cur, rfl, hb, (k.block g (hl g rfl).2 (hS g rfl)).trans hg, r⟩
/-- The row's block bears its type. -/
theorem owns_type {e size n g : Nat} {xs : List Value} (h : w.ownsRow B e size v n xs) (hg : v.ownBlock = some g) : ∃ cur, Blk w g e cur := by
  rcases h.2 with ⟨rfl, _⟩ | ⟨g', cap, cur, rfl, _, hb, _⟩
  · cases hg
  · cases hg
    exact ⟨cur, hb⟩
theorem owns_mono {B' e size n : Nat} {xs : List Value} (h : w.ownsRow B e size v n xs) (k : B' ≤ B) : w.ownsRow B' e size v n xs := by
  obtain ⟨h1, h2⟩ := h
  refine ⟨h1, h2.imp id ?_⟩
  rintro ⟨g, cap, cur, rfl, hb, r⟩
  exact ⟨g, cap, cur, rfl, Nat.le_trans k hb, r⟩
theorem Lst.kept {L : List ByteArray} (h : Lst B w v L) (k : Kept S w w') (hS : ∀ b cur f, w.heap[b]? = some (.cells cur 9 f) → ¬ S b) : Lst B w' v L := by
  obtain ⟨a, c, e, hr, hc⟩ := h
  exact ⟨a, c, e, hr.kept k hS, hc⟩
theorem RlV.kept {cs : List Value} {r : Rl} (h : RlV B w cs r) (k : Kept S w w') (hS : ∀ b cur f, w.heap[b]? = some (.cells cur 9 f) → ¬ S b) : RlV B w' cs r := by
  obtain ⟨v0, v1, v2, v3, v4, e, h0, h1, h2, h3, h4⟩ := h
  exact ⟨v0, v1, v2, v3, v4, e, h0.kept k hS, h1.kept k hS, h2.kept k hS, h3.kept k hS, h4.kept k hS⟩
theorem RlsV.kept (k : Kept S w w') (hS : ∀ b cur f, w.heap[b]? = some (.cells cur 9 f) → ¬ S b) : ∀ (cs : List Value) (rs : List Rl), RlsV B w cs rs → RlsV B w' cs rs
  | _, [], h => h
  | _, _ :: rs, ⟨c, cs', e, hr, ht⟩ => ⟨c, cs', e, hr.kept k hS, RlsV.kept k hS cs' rs ht⟩
theorem RlOwn.kept {rs : List Rl} (h : RlOwn B w v rs) (k : Kept S w w') (hS : ∀ b cur f, w.heap[b]? = some (.cells cur 9 f) → ¬ S b) (hv : ∀ g, v.ownBlock = some g → ¬ S g) : RlOwn B w' v rs := by
  obtain ⟨cs, ho, hr⟩ := h
  exact ⟨cs, owns_kept ho k hv, RlsV.kept k hS cs rs hr⟩
/-- No block of the types of a configuration is in S. -/
structure Free (S : Nat → Prop) (w : World) : Prop where
  s9 : ∀ (b : Nat) (cur : Array Value) (f : Nat × Nat), w.heap[b]? = some (.cells cur 9 f) → ¬ S b
  s26 : ∀ b cur, Blk w b 25 cur → ¬ S b
  s39 : ∀ b cur, Blk w b 40 cur → ¬ S b
  s42 : ∀ b cur, Blk w b 46 cur → ¬ S b
  s73 : ∀ b cur, Blk w b 51 cur → ¬ S b
theorem RlOwn.free {rs : List Rl} (h : RlOwn B w v rs) (k : Kept S w w') (f : Free S w) : RlOwn B w' v rs := by
  refine h.kept k f.s9 (fun g hg => ?_)
  obtain ⟨cs, ho, _⟩ := h
  obtain ⟨cur, hb⟩ := owns_type ho hg
  exact f.s73 g cur hb
theorem ScOwn.free {ss : List Sc} {V : List Value} (h : ScOwn B w v ss V) (k : Kept S w w') (f : Free S w) : ScOwn B w' v ss V :=
  ⟨h.len, owns_kept h.own k (fun g hg => by obtain ⟨cur, hb⟩ := owns_type h.own hg; exact f.s42 g cur hb), fun i hi hi' => (h.rls i hi hi').free k f⟩
theorem LvOwn.free {L : List Lv} (h : LvOwn B w v L) (k : Kept S w w') (f : Free S w) : LvOwn B w' v L :=
  owns_kept h k (fun g hg => by obtain ⟨cur, hb⟩ := owns_type h hg; exact f.s39 g cur hb)
end
theorem free_of_blk {w : World} {R t : Nat} {cs : Array Value} (h : Blk w R t cs) (h9 : t ≠ 9) (h26 : t ≠ 25) (h39 : t ≠ 40) (h42 : t ≠ 46) (h73 : t ≠ 51) : Free (fun k => k = R) w :=
  ⟨fun _ _ _ hb e => h.ne' hb h9 e.symm, fun _ _ hb e => h.ne hb h26 e.symm, fun _ _ hb e => h.ne hb h39 e.symm, fun _ _ hb e => h.ne hb h42 e.symm, fun _ _ hb e => h.ne hb h73 e.symm⟩
theorem Rd.free {B R A : Nat} {w : World} {ws : List ByteArray} {e : Int} (h : Rd B w R A ws e) : Free (fun k => k = R) w := by
  obtain ⟨a, c, hb, _⟩ := h.ex
  exact free_of_blk hb (by decide) (by decide) (by decide) (by decide) (by decide)

/-- The rules of the schema that was told last lie in a block of their own. -/
def Dj (V : List Value) : Prop := ∀ v, V.getLast? = some v → v.ownBlock = none ∨ ∀ u ∈ V.dropLast, u.ownBlock ≠ v.ownBlock

/-- A configuration, in the six cells at A. -/
structure Cfg (B : Nat) (w : World) (A : Nat) (C : Cf) : Prop where
  le : B ≤ A
  ex : ∃ vL vS V, Blk w A 25 #[.int .i64 C.total, .int .i64 C.period, .int .i64 C.perSeat, .int .i64 C.most, vL, vS] ∧ LvOwn B w vL C.levels ∧ ScOwn B w vS C.schemas V ∧ Dj V
theorem Cfg.free {B A : Nat} {S : Nat → Prop} {w w' : World} {C : Cf} (h : Cfg B w A C) (k : Kept S w w') (f : Free S w) : Cfg B w' A C := by
  obtain ⟨vL, vS, V, hb, hl, hs, hd⟩ := h.ex
  exact ⟨h.le, vL, vS, V, hb.kept k (f.s26 A _ hb), hl.free k f, hs.free k f, hd⟩
theorem Cfg.grown {B A : Nat} {w w' : World} {C : Cf} (h : Cfg B w A C) (k : Below w.heap.size w w') : Cfg B w' A C :=
  h.free (Kept.of_below k (fun _ => False)) ⟨fun _ _ _ _ => id, fun _ _ _ => id, fun _ _ _ => id, fun _ _ _ => id, fun _ _ _ => id⟩

/-- From B on nothing but blocks of texts is as it was. -/
structure KT (B : Nat) (w w' : World) : Prop where
  below : Below B w w'
  ty : ∀ (k : Nat) (cur : Array Value) (f : Nat × Nat), w.heap[k]? = some (.cells cur 9 f) → w'.heap[k]? = some (.cells cur 9 f)
theorem KT.refl (B : Nat) (w : World) : KT B w w := ⟨Below.refl _ _, fun _ _ _ h => h⟩
theorem KT.trans {B : Nat} {a b c : World} (h : KT B a b) (k : KT B b c) : KT B a c := ⟨h.below.trans k.below, fun i cur f hi => k.ty i cur f (h.ty i cur f hi)⟩
theorem KT.of_kept {B : Nat} {S : Nat → Prop} {w w' : World} (k : Kept S w w') (hB : B ≤ w.heap.size) (e : ∀ j, S j → B ≤ j) (h9 : ∀ b cur f, w.heap[b]? = some (.cells cur 9 f) → ¬ S b) : KT B w w' := by
  refine ⟨k.below hB e, fun i cur f hi => (k.block i ?_ (h9 i cur f hi)).trans hi⟩
  rcases Nat.lt_or_ge i w.heap.size with h1 | h1
  · exact h1
  · rw [Array.getElem?_eq_none h1] at hi; cases hi
theorem KT.of_grown {B : Nat} {w w' : World} (k : Below w.heap.size w w') (hB : B ≤ w.heap.size) : KT B w w' := KT.of_kept (Kept.of_below k (fun _ => False)) hB (fun _ h => h.elim) (fun _ _ _ _ => id)
theorem Rd.kt {B R A : Nat} {w w' : World} {ws : List ByteArray} {e : Int} (h : Rd B w R A ws e) (k : Kept (fun j => j = R) w w') : KT B w w' :=
  KT.of_kept k (Nat.le_trans h.le (Nat.le_of_lt h.lt)) (fun j hj => by rw [hj]; exact h.le) h.free.s9
theorem RowY.kt {B B' : Nat} {w w' : World} {a : Option Addr} {L : List ByteArray} (h : RowY B w a L) (k : KT B' w w') : RowY B w' a L := fun hn => by
  obtain ⟨b, off, cur, f, e, hB, hb, hc⟩ := h hn
  exact ⟨b, off, cur, f, e, hB, k.ty b cur f hb, hc⟩
end Go.Proofs.YtlkoaldekmdcoaaGreatDoor
