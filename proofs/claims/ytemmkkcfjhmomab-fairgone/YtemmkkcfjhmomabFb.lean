/-
  Lanes in a row, read and of the call's own; what comes in as such lanes. No condition.
-/
import Derived.Test.YtemmkkcfjhmomabTa
import Derived.Test.YtemmkkcfjhmomabSm

namespace Go.Proofs.Ytemmkkcfjhmomab
open Go.RowKit

/-- A lane. -/
structure Ln where
  s : Int
  L : List Tk
def lnZ : Ln := ⟨0, []⟩
def gl (F : List Ln) (k : Nat) : Ln := F.getD k lnZ
theorem gl_cons_zero (l : Ln) (F : List Ln) : gl (l :: F) 0 = l := rfl
theorem gl_cons_succ (l : Ln) (F : List Ln) (k : Nat) : gl (l :: F) (k + 1) = gl F k := rfl
theorem gl_get {F : List Ln} {k : Nat} (h : k < F.length) : F[k]? = some (gl F k) := by
  unfold gl; rw [List.getD_eq_getElem?_getD, List.getElem?_eq_getElem h]; rfl
theorem gl_mem {F : List Ln} {k : Nat} (h : k < F.length) : gl F k ∈ F := List.mem_of_getElem? (gl_get h)
theorem gl_out {F : List Ln} {k : Nat} (h : F.length ≤ k) : gl F k = lnZ := by
  unfold gl; rw [List.getD_eq_getElem?_getD, List.getElem?_eq_none h]; rfl
/-- Few lanes, and short ones. -/
structure Few (F : List Ln) : Prop where
  len : F.length ≤ 200
  each : ∀ l ∈ F, Word l.s ∧ l.L.length ≤ 1000
theorem Few.at {F : List Ln} (h : Few F) (k : Nat) : Word (gl F k).s ∧ (gl F k).L.length ≤ 1000 := by
  rcases Nat.lt_or_ge k F.length with c | c
  · exact h.each _ (gl_mem c)
  · rw [gl_out c]; exact ⟨⟨by decide, by decide⟩, by decide⟩
theorem Few.set {F : List Ln} (h : Few F) {k : Nat} {l : Ln} (hl : Word l.s ∧ l.L.length ≤ 1000) : Few (F.set k l) :=
  ⟨by rw [List.length_set]; exact h.len, fun x hx => by
    rcases List.mem_or_eq_of_mem_set hx with c | c
    · exact h.each x c
    · rw [c]; exact hl⟩
theorem Few.take {F : List Ln} (h : Few F) (k : Nat) : Few (F.take k) :=
  ⟨by rw [List.length_take]; have := h.len; omega, fun x hx => h.each x (List.mem_of_mem_take hx)⟩
theorem gl_set_same {F : List Ln} {k : Nat} {l : Ln} (h : k < F.length) : gl (F.set k l) k = l := by
  unfold gl; rw [List.getD_eq_getElem?_getD, List.getElem?_set_self h]; rfl
theorem gl_set_ne {F : List Ln} {k j : Nat} {l : Ln} (h : k ≠ j) : gl (F.set k l) j = gl F j := by
  unfold gl; rw [List.getD_eq_getElem?_getD, List.getElem?_set_ne h, List.getD_eq_getElem?_getD]
theorem gl_take {F : List Ln} {n k : Nat} (h : k < n) : gl (F.take n) k = gl F k := by
  unfold gl; rw [List.getD_eq_getElem?_getD, List.getElem?_take_of_lt h, List.getD_eq_getElem?_getD]

/-- A lane and the value of its list; their cells. -/
abbrev Lz := Ln × Value
def zC (z : Lz) : List Value := [.int .u64 z.1.s, z.2]
def zCs (Z : List Lz) : List Value := Z.flatMap zC
theorem zCs_nil : zCs [] = [] := rfl
theorem zCs_cons (z : Lz) (Z : List Lz) : zCs (z :: Z) = zC z ++ zCs Z := by simp [zCs]
theorem zCs_append (Y Z : List Lz) : zCs (Y ++ Z) = zCs Y ++ zCs Z := by simp [zCs]
theorem zCs_len (Z : List Lz) : (zCs Z).length = Z.length * 2 := by
  induction Z with
  | nil => rfl
  | cons z Z ih => rw [zCs_cons, List.length_append, ih]; simp [zC]; omega
theorem zCs_at : ∀ (Z : List Lz) (k : Nat) (z : Lz), Z[k]? = some z → ∀ j, j < 2 → (zCs Z)[k * 2 + j]? = (zC z)[j]?
  | [], k, z, h, _, _ => by simp at h
  | y :: Z, 0, z, h, j, hj => by
    simp at h
    subst h
    rw [zCs_cons, List.getElem?_append_left (by simp [zC]; omega)]
    simp
  | y :: Z, k + 1, z, h, j, hj => by
    rw [zCs_cons, List.getElem?_append_right (by simp [zC]; omega)]
    rw [← zCs_at Z k z (by simpa using h) j hj]
    congr 1
    simp [zC]; omega
theorem zCs_take : ∀ (Z : List Lz) (n : Nat), (zCs Z).take (n * 2) = zCs (Z.take n)
  | [], n => by simp [zCs]
  | z :: Z, 0 => by simp [zCs]
  | z :: Z, n + 1 => by
    rw [zCs_cons, List.take_succ_cons, zCs_cons, ← zCs_take Z n, List.take_append]
    have e1 : (zC z).take ((n + 1) * 2) = zC z := List.take_of_length_le (by simp [zC]; omega)
    have e2 : (n + 1) * 2 - (zC z).length = n * 2 := by simp [zC]; omega
    rw [e1, e2]
theorem zCs_set : ∀ (Z : List Lz) (k : Nat) (x : Int) (v : Value) (l : Ln), l.s = x → k < Z.length → ((zCs Z).set (k * 2) (.int .u64 x)).set (k * 2 + 1) v = zCs (Z.set k (l, v))
  | [], k, _, _, _, _, h => absurd h (by simp)
  | z :: Z, 0, x, v, l, hx, h => by subst hx; simp [zCs_cons, zC]
  | z :: Z, k + 1, x, v, l, hx, h => by
    rw [List.set_cons_succ, zCs_cons, zCs_cons, ← zCs_set Z k x v l hx (by simpa using h)]
    rw [show (k + 1) * 2 = (zC z).length + k * 2 from by simp [zC]; omega, show (zC z).length + k * 2 + 1 = (zC z).length + (k * 2 + 1) from by omega]
    rw [List.set_append_right _ _ (by omega), List.set_append_right _ _ (by omega)]
    simp
theorem zCs_one {Z : List Lz} (h : ∀ z ∈ Z, ∃ a n c, z.2 = .slice a n c) : ∀ u ∈ zCs Z, u.oneCell' = true := by
  intro u hu
  unfold zCs at hu
  obtain ⟨z, hz, hu⟩ := List.mem_flatMap.1 hu
  obtain ⟨a, n, c, e⟩ := h z hz
  simp [zC] at hu
  rcases hu with rfl | rfl
  · rfl
  · rw [e]; rfl
/-- Cells that are read. -/
def RowR (w : World) (a : Option Addr) (cs : List Value) : Prop := cs ≠ [] → ∃ b off, a = some ⟨b, off, none⟩ ∧ b < w.heap.size ∧ ∀ j u, cs[j]? = some u → w.cell? ⟨b, off + j, none⟩ = some u
theorem RowR.carry {w w' : World} {a : Option Addr} {cs : List Value} (h : RowR w a cs) (b : Below w.heap.size w w') : RowR w' a cs := fun hn => by
  obtain ⟨g, off, rfl, hg, hc⟩ := h hn
  exact ⟨g, off, rfl, Nat.lt_of_lt_of_le hg b.size, fun j u hj => (b.cell (p := ⟨g, off + j, none⟩) hg).trans (hc j u hj)⟩
theorem RowR.cells {w : World} {x : Addr} {cs : List Value} (h : RowR w (some x) cs) : ∀ j u, cs[j]? = some u → w.cell? (x.add j) = some u := fun j u hj => by
  obtain ⟨b, off, e, -, hc⟩ := h (by intro e; rw [e] at hj; simp at hj)
  cases e
  rw [Go.WideShapes.add_plain]
  exact hc j u hj
/-- The value of a lane's list, and what it holds. -/
def LzR (w : World) (z : Lz) : Prop := ∃ a c, z.2 = .slice a z.1.L.length c ∧ SlR w a c z.1.L
theorem LzR.carry {w w' : World} {z : Lz} (h : LzR w z) (b : Below w.heap.size w w') : LzR w' z := by
  obtain ⟨a, c, e, k⟩ := h
  exact ⟨a, c, e, k.carry b⟩
/-- A slice of lanes that is read. -/
def LsR (w : World) (a : Option Addr) (c : Nat) (F : List Ln) : Prop := F.length ≤ c ∧ (a = none → c = 0) ∧ ∃ Z : List Lz, Z.map Prod.fst = F ∧ RowR w a (zCs Z) ∧ ∀ z ∈ Z, LzR w z
theorem LsR.carry {w w' : World} {a : Option Addr} {c : Nat} {F : List Ln} (h : LsR w a c F) (b : Below w.heap.size w w') : LsR w' a c F := by
  obtain ⟨h1, h2, Z, h3, h4, h5⟩ := h
  exact ⟨h1, h2, Z, h3, h4.carry b, fun z hz => (h5 z hz).carry b⟩
theorem LsR.nil (w : World) : LsR w none 0 [] := ⟨Nat.le_refl _, fun _ => rfl, [], rfl, fun h => absurd rfl h, fun _ h => by cases h⟩
theorem map_fst_get {Z : List Lz} {F : List Ln} (h : Z.map Prod.fst = F) {k : Nat} (hk : k < F.length) : ∃ v, Z[k]? = some (gl F k, v) := by
  have hl : Z.length = F.length := by rw [← h, List.length_map]
  refine ⟨(Z[k]'(by omega)).2, ?_⟩
  rw [List.getElem?_eq_getElem (by omega)]
  have : gl F k = (Z[k]'(by omega)).1 := by
    have e := gl_get hk
    subst h
    rw [List.getElem?_map, List.getElem?_eq_getElem (by omega)] at e
    simpa using e.symm
  rw [this]
/-- The k-th lane's cells. -/
theorem LsR.at {w : World} {a : Option Addr} {c : Nat} {F : List Ln} (h : LsR w a c F) {k : Nat} (hk : k < F.length) : ∃ b off a' c', a = some ⟨b, off, none⟩ ∧ b < w.heap.size ∧ w.cell? ⟨b, off + k * 2, none⟩ = some (.int .u64 (gl F k).s) ∧ w.cell? ⟨b, off + k * 2 + 1, none⟩ = some (.slice a' (gl F k).L.length c') ∧ SlR w a' c' (gl F k).L := by
  obtain ⟨-, -, Z, h3, h4, h5⟩ := h
  obtain ⟨v, hv⟩ := map_fst_get h3 hk
  have hn : zCs Z ≠ [] := by
    intro e
    have := zCs_at Z k _ hv 0 (by decide)
    rw [e] at this
    simp [zC] at this
  obtain ⟨b, off, rfl, hb, hc⟩ := h4 hn
  obtain ⟨a', c', e, r⟩ := h5 _ (List.mem_of_getElem? hv)
  simp only at e r
  subst e
  exact ⟨b, off, a', c', rfl, hb, hc (k * 2 + 0) _ (zCs_at Z k _ hv 0 (by decide)), hc (k * 2 + 1) _ (zCs_at Z k _ hv 1 (by decide)), r⟩
/-- The first ones. -/
theorem LsR.take {w : World} {a : Option Addr} {c : Nat} {F : List Ln} (h : LsR w a c F) (n : Nat) : LsR w a c (F.take n) := by
  obtain ⟨h1, h2, Z, h3, h4, h5⟩ := h
  refine ⟨Nat.le_trans (by rw [List.length_take]; omega) h1, h2, Z.take n, by rw [List.map_take, h3], fun hn => ?_, fun z hz => h5 z (List.mem_of_mem_take hz)⟩
  rw [← zCs_take] at hn ⊢
  obtain ⟨b, off, e, hb, hc⟩ := h4 (by intro e; rw [e] at hn; simp at hn)
  refine ⟨b, off, e, hb, fun j u hj => hc j u ?_⟩
  rw [List.getElem?_take] at hj
  split at hj
  · exact hj
  · cases hj
/-- Lanes in memory of the call's own. -/
def OwL (w : World) (B : Nat) (v : Value) (F : List Ln) : Prop := ∃ Z : List Lz, Z.map Prod.fst = F ∧ w.ownsRow B 38 2 v F.length (zCs Z) ∧ ∀ z ∈ Z, OwnT w B z.2 z.1.L
theorem OwnT.lz {w : World} {B : Nat} {z : Lz} (h : OwnT w B z.2 z.1.L) : LzR w z := h.read
theorem OwL.read {w : World} {B : Nat} {v : Value} {F : List Ln} (h : OwL w B v F) : ∃ a c, v = .slice a F.length c ∧ LsR w a c F := by
  obtain ⟨Z, hZ, ho, hz⟩ := h
  rcases id ho.2 with ⟨rfl, e⟩ | ⟨g, cap, cur, rfl, hb, hg, hc, r⟩
  · have : F = [] := List.eq_nil_of_length_eq_zero e
    subst this
    exact ⟨_, 0, rfl, LsR.nil w⟩
  · refine ⟨some ⟨g, 0, none⟩, cap, rfl, hc, (fun e => by cases e), Z, hZ, fun _ => ⟨g, 0, rfl, (ho.lt g rfl).2, fun j u hj => ?_⟩, fun z h => (hz z h).lz⟩
    have := ho.cells rfl j u hj
    rw [Go.WideShapes.add_plain] at this
    exact this
theorem ownsRow_kept {S : Nat → Prop} {w w' : World} {B t m n : Nat} {v : Value} {cs : List Value} (h : w.ownsRow B t m v n cs) (k : Kept S w w') (hS : ∀ j, v.ownBlock = some j → ¬ S j) : w'.ownsRow B t m v n cs := by
  refine ⟨h.1, h.2.imp id ?_⟩
  rintro ⟨g, cap, cur, e, hb, hg, r⟩
  refine ⟨g, cap, cur, e, hb, ?_, r⟩
  have hlt : g < w.heap.size := by
    rcases Nat.lt_or_ge g w.heap.size with h1 | h1
    · exact h1
    · rw [Array.getElem?_eq_none h1] at hg; cases hg
  rw [k.block g hlt (hS g (by rw [e]; rfl))]
  exact hg
theorem OwL.kept {S : Nat → Prop} {w w' : World} {B : Nat} {v : Value} {F : List Ln} (h : OwL w B v F) (k : Kept S w w') (hS : ∀ j, B ≤ j → ¬ S j) : OwL w' B v F := by
  obtain ⟨Z, hZ, ho, hz⟩ := h
  exact ⟨Z, hZ, ownsRow_kept ho k (fun j e => hS j (ho.lt j e).1), fun z h => (hz z h).kept k hS⟩
theorem OwL.low {w : World} {B B' : Nat} {v : Value} {F : List Ln} (h : OwL w B v F) (hB : B' ≤ B) : OwL w B' v F := by
  obtain ⟨Z, hZ, ho, hz⟩ := h
  exact ⟨Z, hZ, ⟨ho.1, ho.2.imp id (fun ⟨g, cap, cur, e, hb, r⟩ => ⟨g, cap, cur, e, Nat.le_trans hB hb, r⟩)⟩, fun z h => (hz z h).low hB⟩
/-- A row of tickets of the call's own stays where a row of lanes turns. -/
theorem OwnT.turn {w w' : World} {B g : Nat} {v : Value} {L : List Tk} (h : OwnT w B v L) {cur : Array Value} (hg : w.heap[g]? = some (.cells cur 38 (0, 0))) (k : Kept (fun j => j = g) w w') : OwnT w' B v L :=
  h.other (cs := cur) hg k
/-- A fair's cells. -/
def faA (r g n o : Int) (v : Value) : Array Value := #[.int .u64 r, .int .i64 g, .int .i64 n, .int .i64 o, v]
theorem Blk.fair {w : World} {b : Nat} {r g n o : Int} {v : Value} (h : Blk w b 25 (faA r g n o v)) :
    (w.cell? ⟨b, 0, none⟩ = some (.int .u64 r) ∧ w.cell? ⟨b, 1, none⟩ = some (.int .i64 g) ∧ w.cell? ⟨b, 2, none⟩ = some (.int .i64 n) ∧ w.cell? ⟨b, 3, none⟩ = some (.int .i64 o) ∧ w.cell? ⟨b, 4, none⟩ = some v)
    ∧ w.frozen? ⟨b, 0, none⟩ = false ∧ w.frozen? ⟨b, 1, none⟩ = false ∧ w.frozen? ⟨b, 2, none⟩ = false ∧ w.frozen? ⟨b, 3, none⟩ = false ∧ w.frozen? ⟨b, 4, none⟩ = false :=
  ⟨⟨h.cellv 0 rfl, h.cellv 1 rfl, h.cellv 2 rfl, h.cellv 3 rfl, h.cellv 4 rfl⟩, h.frozen 0, h.frozen 1, h.frozen 2, h.frozen 3, h.frozen 4⟩
theorem fair_set {w : World} {b : Nat} {r g n o : Int} {v : Value} (h : Blk w b 25 (faA r g n o v)) (r' g' n' o' : Int) (v' : Value) :
    Blk (((((w.setCell ⟨b, 0, none⟩ (.int .u64 r')).setCell ⟨b, 1, none⟩ (.int .i64 g')).setCell ⟨b, 2, none⟩ (.int .i64 n')).setCell ⟨b, 3, none⟩ (.int .i64 o')).setCell ⟨b, 4, none⟩ v') b 25 (faA r' g' n' o' v')
    ∧ Kept (fun k => k = b) w (((((w.setCell ⟨b, 0, none⟩ (.int .u64 r')).setCell ⟨b, 1, none⟩ (.int .i64 g')).setCell ⟨b, 2, none⟩ (.int .i64 n')).setCell ⟨b, 3, none⟩ (.int .i64 o')).setCell ⟨b, 4, none⟩ v') := by
  refine ⟨?_, (((((Kept.refl (fun k => k = b) w).setCell _ _ (.inl rfl)).setCell _ _ (.inl rfl)).setCell _ _ (.inl rfl)).setCell _ _ (.inl rfl)).setCell _ _ (.inl rfl)⟩
  have := ((((h.set 0 (.int .u64 r')).set 1 (.int .i64 g')).set 2 (.int .i64 n')).set 3 (.int .i64 o')).set 4 v'
  simpa [faA] using this
theorem fair_lanes {w : World} {b : Nat} {r g n o : Int} {v : Value} (h : Blk w b 25 (faA r g n o v)) (v' : Value) :
    Blk (w.setCell ⟨b, 4, none⟩ v') b 25 (faA r g n o v') ∧ Kept (fun k => k = b) w (w.setCell ⟨b, 4, none⟩ v') := by
  refine ⟨?_, (Kept.refl (fun k => k = b) w).setCell _ _ (.inl rfl)⟩
  have := h.set 4 v'
  simpa [faA] using this
theorem fair_open {w : World} {b : Nat} {r g n o : Int} {v : Value} (h : Blk w b 25 (faA r g n o v)) (o' : Int) :
    Blk (w.setCell ⟨b, 3, none⟩ (.int .i64 o')) b 25 (faA r g n o' v) ∧ Kept (fun k => k = b) w (w.setCell ⟨b, 3, none⟩ (.int .i64 o')) := by
  refine ⟨?_, (Kept.refl (fun k => k = b) w).setCell _ _ (.inl rfl)⟩
  have := h.set 3 (.int .i64 o')
  simpa [faA] using this
theorem fair_r {w : World} {b : Nat} {r g n o : Int} {v : Value} (h : Blk w b 25 (faA r g n o v)) (r' : Int) :
    Blk (w.setCell ⟨b, 0, none⟩ (.int .u64 r')) b 25 (faA r' g n o v) ∧ Kept (fun k => k = b) w (w.setCell ⟨b, 0, none⟩ (.int .u64 r')) := by
  refine ⟨?_, (Kept.refl (fun k => k = b) w).setCell _ _ (.inl rfl)⟩
  have := h.set 0 (.int .u64 r')
  simpa [faA] using this
/-- A fair as it is answered, and how it is read. -/
def FaV (w : World) (r g n o : Int) (F : List Ln) (v : Value) : Prop := ∃ a c, v = .agg #[.int .u64 r, .int .i64 g, .int .i64 n, .int .i64 o, .slice a F.length c] ∧ LsR w a c F
theorem FaV.carry {w w' : World} {r g n o : Int} {F : List Ln} {v : Value} (h : FaV w r g n o F v) (b : Below w.heap.size w w') : FaV w' r g n o F v := by
  obtain ⟨a, c, e, k⟩ := h
  exact ⟨a, c, e, k.carry b⟩
/-- The same, in memory of the call's own. -/
def FaO (w : World) (B : Nat) (r g n o : Int) (F : List Ln) (v : Value) : Prop := ∃ u, v = .agg #[.int .u64 r, .int .i64 g, .int .i64 n, .int .i64 o, u] ∧ OwL w B u F
theorem FaO.read {w : World} {B : Nat} {r g n o : Int} {F : List Ln} {v : Value} (h : FaO w B r g n o F v) : FaV w r g n o F v := by
  obtain ⟨u, rfl, k⟩ := h
  obtain ⟨a, c, rfl, k'⟩ := k.read
  exact ⟨a, c, rfl, k'⟩
end Go.Proofs.Ytemmkkcfjhmomab
