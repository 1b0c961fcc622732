/-
  What the copy of a configuration leans on: rows in memory of their own.
-/
import Derived.Test.YtijjpblmnlednaaGreatDoorE12
import Derived.Test.YtijjpblmnlednaaGreatDoorE13
import Derived.Test.YtijjpblmnlednaaGreatDoorE9
import Derived.Deep.RegionHeld
import Derived.Deep.RegionLaw
import Derived.Deep.CutBlock
import Derived.Deep.DeepCutAuto
namespace Go.Proofs.YtijjpblmnlednaaGreatDoor
open Go.RowKit
/-- Five cells. -/
structure Q5 where
  v0 : Value
  v1 : Value
  v2 : Value
  v3 : Value
  v4 : Value

def q5L (q : Q5) : List Value := [q.v0, q.v1, q.v2, q.v3, q.v4]

def q5C : List Q5 → List Value
  | [] => []
  | q :: L => q5L q ++ q5C L

theorem q5C_len : ∀ L, (q5C L).length = L.length * 5
  | [] => rfl
  | l :: L => by simp [q5C, q5L, q5C_len L]; omega

theorem q5C_append : ∀ A B, q5C (A ++ B) = q5C A ++ q5C B
  | [], B => rfl
  | x :: A, B => by simp [q5C, q5C_append A B]

theorem q5C_at : ∀ (L : List Q5) (i j : Nat) (h : i < L.length), j < 5 → (q5C L)[i * 5 + j]? = (q5L L[i])[j]?
  | [], i, j, h, _ => by simp at h
  | x :: L, 0, j, _, hj => by
    simp only [q5C, Nat.zero_mul, Nat.zero_add]
    rw [List.getElem?_append_left (by simpa [q5L] using hj)]
    rfl
  | x :: L, i + 1, j, h, hj => by
    have := q5C_at L i j (by simpa using h) hj
    simp only [q5C]
    rw [List.getElem?_append_right (by simp [q5L]; omega), show (i + 1) * 5 + j - (q5L x).length = i * 5 + j by simp [q5L]; omega]
    simpa using this

theorem scCs_len : ∀ (L : List Sc) (V : List Value), V.length = L.length → (scCs L V).length = L.length * 5
  | [], [], _ => rfl
  | [], _ :: _, h => by simp at h
  | _ :: _, [], h => by simp at h
  | l :: L, v :: V, h => by simp [scCs, scC, scCs_len L V (by simpa using h)]; omega

theorem scCs_append : ∀ (A B : List Sc) (V W : List Value), V.length = A.length → scCs (A ++ B) (V ++ W) = scCs A V ++ scCs B W
  | [], B, [], W, _ => rfl
  | [], _, _ :: _, _, h => by simp at h
  | _ :: _, _, [], _, h => by simp at h
  | x :: A, B, v :: V, W, h => by simp [scCs, scCs_append A B V W (by simpa using h)]

theorem scCs_at : ∀ (L : List Sc) (V : List Value) (i j : Nat) (h : i < L.length) (h' : i < V.length), j < 5 → (scCs L V)[i * 5 + j]? = (scC L[i] V[i])[j]?
  | [], _, i, j, h, _, _ => by simp at h
  | _ :: _, [], i, j, _, h, _ => by simp at h
  | x :: L, v :: V, 0, j, _, _, hj => by
    simp only [scCs, Nat.zero_mul, Nat.zero_add]
    rw [List.getElem?_append_left (by simpa [scC] using hj)]
    rfl
  | x :: L, v :: V, i + 1, j, h, h', hj => by
    have := scCs_at L V i j (by simpa using h) (by simpa using h') hj
    simp only [scCs]
    rw [List.getElem?_append_right (by simp [scC]; omega), show (i + 1) * 5 + j - (scC x v).length = i * 5 + j by simp [scC]; omega]
    simpa using this

/-- No block of the type t is in S. -/
def Off (t : Nat) (S : Nat → Prop) (w : World) : Prop := ∀ b cur, Blk w b t cur → ¬ S b

theorem Off.none (t : Nat) (w : World) : Off t (fun _ => False) w := fun _ _ _ h => h

theorem off_blk {w : World} {g t t' : Nat} {cur : Array Value} (h : Blk w g t cur) (e : t ≠ t') : Off t' (fun k => k = g) w := fun _ _ hb he => h.ne hb e he.symm

theorem off_own {w : World} {B e t' size n : Nat} {v : Value} {xs : List Value} (h : w.ownsRow B e size v n xs) (ne : e ≠ t') : Off t' (fun k => v.ownBlock = some k) w := fun b cur hb he => by
  obtain ⟨cur', hb'⟩ := owns_type h he
  exact hb'.ne hb ne rfl

section
variable {B : Nat} {S : Nat → Prop} {w w' : World} {v : Value}
theorem owns_off {e size n : Nat} {xs : List Value} (h : w.ownsRow B e size v n xs) (k : Kept S w w') (o : Off e S w) : w'.ownsRow B e size v n xs :=
  owns_kept h k fun g hg => by obtain ⟨cur, hb⟩ := owns_type h hg; exact o g cur hb
end

section
variable {B : Nat} {S : Nat → Prop} {w w' : World} {v : Value}
/-- How an own row is read. -/
theorem owns_read {e size n : Nat} {xs : List Value} (h : w.ownsRow B e size v n xs) : ∃ a c, v = .slice a n c ∧ n ≤ c ∧ (0 < n → ∃ g cur, a = some ⟨g, 0, none⟩ ∧ B ≤ g ∧ Blk w g e cur ∧ cur.size = c * size ∧ ∀ i u, xs[i]? = some u → w.cell? ⟨g, i, none⟩ = some u) := by
  obtain ⟨hl, h⟩ := h
  rcases h with ⟨rfl, rfl⟩ | ⟨g, cap, cur, rfl, hb, hg, hn, hc, hs, ht⟩
  · exact ⟨none, 0, rfl, Nat.le_refl _, fun h => absurd h (Nat.lt_irrefl 0)⟩
  · refine ⟨some ⟨g, 0, none⟩, cap, rfl, hn, fun _ => ⟨g, cur, rfl, hb, hg, hs, fun i u hu => ?_⟩⟩
    have hg' : Blk w g e cur := hg
    rw [hg'.cell i]
    rw [← ht, List.getElem?_take] at hu
    split at hu
    · simpa using hu
    · cases hu
end

/-- A rule's five lists, of own memory. -/
def RuW (B : Nat) (w : World) (q : Q5) (r : Rl) : Prop := OwnT B w q.v0 r.users ∧ OwnT B w q.v1 r.groups ∧ OwnT B w q.v2 r.verbs ∧ OwnT B w q.v3 r.resources ∧ OwnT B w q.v4 r.spaces

structure RlW (B : Nat) (w : World) (v : Value) (rs : List Rl) : Prop where
  ex : ∃ Q : List Q5, Q.length = rs.length ∧ w.ownsRow B 50 5 v rs.length (q5C Q) ∧ ∀ k (h : k < rs.length) (h' : k < Q.length), RuW B w Q[k] rs[k]

def LvW (B : Nat) (w : World) (v : Value) (L : List Lv) : Prop := w.ownsRow B 45 10 v L.length (lvCs L)

/-- Blocks of rules are unlike. -/
def Djs (V : List Value) : Prop := ∀ i j (hi : i < V.length) (hj : j < V.length), i < j → ∀ g, V[i].ownBlock = some g → V[j].ownBlock ≠ some g

structure ScW (B : Nat) (w : World) (v : Value) (ss : List Sc) (V : List Value) : Prop where
  len : V.length = ss.length
  own : w.ownsRow B 53 5 v ss.length (scCs ss V)
  rls : ∀ k (h : k < ss.length) (h' : k < V.length), RlW B w V[k] ss[k].rules
  dj : Djs V

structure CfW (B : Nat) (w : World) (v : Value) (C : Cf) : Prop where
  ex : ∃ vL vS V, v = .agg #[.int .i64 C.total, .int .i64 C.period, .int .i64 C.perSeat, .int .i64 C.most, vL, vS] ∧ LvW B w vL C.levels ∧ ScW B w vS C.schemas V

section
variable {B B' : Nat} {S : Nat → Prop} {w w' : World} {v : Value}
theorem OwnT.off {L : List ByteArray} (h : OwnT B w v L) (k : Kept S w w') (o : Off 9 S w) : OwnT B w' v L := owns_off h k o
end

section
variable {B B' : Nat} {S : Nat → Prop} {w w' : World} {v : Value}
theorem OwnT.mono {L : List ByteArray} (h : OwnT B w v L) (k : B' ≤ B) : OwnT B' w v L := owns_mono h k
end

section
variable {B B' : Nat} {S : Nat → Prop} {w w' : World} {v : Value}
theorem RuW.off {q : Q5} {r : Rl} (h : RuW B w q r) (k : Kept S w w') (o : Off 9 S w) : RuW B w' q r := ⟨h.1.off k o, h.2.1.off k o, h.2.2.1.off k o, h.2.2.2.1.off k o, h.2.2.2.2.off k o⟩
end

section
variable {B B' : Nat} {S : Nat → Prop} {w w' : World} {v : Value}
theorem RuW.mono {q : Q5} {r : Rl} (h : RuW B w q r) (k : B' ≤ B) : RuW B' w q r := ⟨h.1.mono k, h.2.1.mono k, h.2.2.1.mono k, h.2.2.2.1.mono k, h.2.2.2.2.mono k⟩
end

section
variable {B B' : Nat} {S : Nat → Prop} {w w' : World} {v : Value}
theorem RlW.off {rs : List Rl} (h : RlW B w v rs) (k : Kept S w w') (o : Off 9 S w) (o' : Off 50 S w) : RlW B w' v rs := by
  obtain ⟨Q, hQ, ho, hr⟩ := h.ex
  exact ⟨Q, hQ, owns_off ho k o', fun i h1 h2 => (hr i h1 h2).off k o⟩
end

section
variable {B B' : Nat} {S : Nat → Prop} {w w' : World} {v : Value}
theorem RlW.mono {rs : List Rl} (h : RlW B w v rs) (k : B' ≤ B) : RlW B' w v rs := by
  obtain ⟨Q, hQ, ho, hr⟩ := h.ex
  exact ⟨Q, hQ, owns_mono ho k, fun i h1 h2 => (hr i h1 h2).mono k⟩
end

section
variable {B B' : Nat} {S : Nat → Prop} {w w' : World} {v : Value}
theorem ScW.off {ss : List Sc} {V : List Value} (h : ScW B w v ss V) (k : Kept S w w') (o : Off 9 S w) (o' : Off 50 S w) (o2 : Off 53 S w) : ScW B w' v ss V :=
  ⟨h.len, owns_off h.own k o2, fun i h1 h2 => (h.rls i h1 h2).off k o o', h.dj⟩
end

section
variable {B B' : Nat} {S : Nat → Prop} {w w' : World} {v : Value}
theorem ScW.grown {ss : List Sc} {V : List Value} (h : ScW B w v ss V) (k : Below w.heap.size w w') : ScW B w' v ss V := h.off (Kept.of_below k (fun _ => False)) (Off.none _ _) (Off.none _ _) (Off.none _ _)
end

section
variable {B B' : Nat} {S : Nat → Prop} {w w' : World} {v : Value}
theorem LvW.off {L : List Lv} (h : LvW B w v L) (k : Kept S w w') (o : Off 45 S w) : LvW B w' v L := owns_off h k o
end

section
variable {B B' : Nat} {S : Nat → Prop} {w w' : World} {v : Value}
theorem LvW.grown {L : List Lv} (h : LvW B w v L) (k : Below w.heap.size w w') : LvW B w' v L := h.off (Kept.of_below k (fun _ => False)) (Off.none _ _)
end

section
variable {B B' : Nat} {S : Nat → Prop} {w w' : World} {v : Value}
theorem LvW.mono {L : List Lv} (h : LvW B w v L) (k : B' ≤ B) : LvW B' w v L := owns_mono h k
end

section
variable {B B' : Nat} {S : Nat → Prop} {w w' : World} {v : Value}
theorem ScW.mono {ss : List Sc} {V : List Value} (h : ScW B w v ss V) (k : B' ≤ B) : ScW B' w v ss V := ⟨h.len, owns_mono h.own k, fun i h1 h2 => (h.rls i h1 h2).mono k, h.dj⟩
end

section
variable {B B' : Nat} {S : Nat → Prop} {w w' : World} {v : Value}
theorem CfW.grown {C : Cf} (h : CfW B w v C) (k : Below w.heap.size w w') : CfW B w' v C := by
  obtain ⟨vL, vS, V, e, h1, h2⟩ := h.ex
  exact ⟨vL, vS, V, e, h1.grown k, h2.grown k⟩
end

def LsF (L : List ByteArray) : Prop := L.length ≤ 9223372036854775807 ∧ ∀ x ∈ L, x.size ≤ 9223372036854775807

def RlF (r : Rl) : Prop := LsF r.users ∧ LsF r.groups ∧ LsF r.verbs ∧ LsF r.resources ∧ LsF r.spaces

structure Fits (C : Cf) : Prop where
  sz : C.levels.length ≤ 9223372036854775807 ∧ C.schemas.length ≤ 9223372036854775807
  nm : (∀ l ∈ C.levels, l.name.size ≤ 9223372036854775807) ∧ ∀ s ∈ C.schemas, s.name.size ≤ 9223372036854775807 ∧ s.level.size ≤ 9223372036854775807
  rl : ∀ s ∈ C.schemas, s.rules.length ≤ 9223372036854775807 ∧ ∀ r ∈ s.rules, RlF r

/-- No more than n of each. -/
def RlN (n : Nat) (r : Rl) : Prop := r.users.length ≤ n ∧ r.groups.length ≤ n ∧ r.verbs.length ≤ n ∧ r.resources.length ≤ n ∧ r.spaces.length ≤ n

structure Bnd (n : Nat) (C : Cf) : Prop where
  lv : C.levels.length ≤ n
  sc : C.schemas.length ≤ n
  rl : ∀ s ∈ C.schemas, s.rules.length ≤ n ∧ ∀ r ∈ s.rules, RlN n r

section
variable {B : Nat} {w : World} {v : Value}
theorem RuW.read {q : Q5} {r : Rl} (h : RuW B w q r) (f : RlF r) : RuR w q.v0 q.v1 q.v2 q.v3 q.v4 r :=
  ⟨own_ls h.1 f.1.1 f.1.2, own_ls h.2.1 f.2.1.1 f.2.1.2, own_ls h.2.2.1 f.2.2.1.1 f.2.2.1.2, own_ls h.2.2.2.1 f.2.2.2.1.1 f.2.2.2.1.2, own_ls h.2.2.2.2 f.2.2.2.2.1 f.2.2.2.2.2⟩
end

section
variable {B : Nat} {w : World} {v : Value}
theorem RlW.read {rs : List Rl} (h : RlW B w v rs) (f : rs.length ≤ 9223372036854775807) (f' : ∀ r ∈ rs, RlF r) : RlR w v rs := by
  obtain ⟨Q, hQ, ho, hr⟩ := h.ex
  obtain ⟨a, c, rfl, hc, hrow⟩ := owns_read ho
  refine ⟨a, c, rfl, f, fun hn => ?_⟩
  obtain ⟨g, cur, rfl, -, hg, -, hcs⟩ := hrow hn
  refine ⟨g, 0, rfl, hg.lt, fun k hk => ?_⟩
  have hkQ : k < Q.length := by omega
  refine ⟨Q[k].v0, Q[k].v1, Q[k].v2, Q[k].v3, Q[k].v4, ⟨?_, ?_, ?_, ?_, ?_⟩, (hr k hk hkQ).read (f' _ (List.getElem_mem hk))⟩
  · rw [Nat.zero_add]; exact hcs (k * 5) _ (by have := q5C_at Q k 0 hkQ (by decide); simpa [q5L] using this)
  · rw [Nat.zero_add]; exact hcs (k * 5 + 1) _ (by have := q5C_at Q k 1 hkQ (by decide); simpa [q5L] using this)
  · rw [Nat.zero_add]; exact hcs (k * 5 + 2) _ (by have := q5C_at Q k 2 hkQ (by decide); simpa [q5L] using this)
  · rw [Nat.zero_add]; exact hcs (k * 5 + 3) _ (by have := q5C_at Q k 3 hkQ (by decide); simpa [q5L] using this)
  · rw [Nat.zero_add]; exact hcs (k * 5 + 4) _ (by have := q5C_at Q k 4 hkQ (by decide); simpa [q5L] using this)
end

section
variable {B : Nat} {w : World} {v : Value}
theorem LvW.read {L : List Lv} (h : LvW B w v L) : ∃ a c, v = .slice a L.length c ∧ L.length ≤ c ∧ LvR w a L := by
  obtain ⟨a, c, rfl, hc, hrow⟩ := owns_read h
  refine ⟨a, c, rfl, hc, fun hn => ?_⟩
  obtain ⟨g, cur, rfl, -, hg, -, hcs⟩ := hrow hn
  refine ⟨g, 0, rfl, hg.lt, fun k hk j hj => ?_⟩
  have h1 := lvCs_at L k j hk hj
  have h2 : j < (lvC L[k]).length := by simpa [lvC] using hj
  rw [List.getElem?_eq_getElem h2] at h1 ⊢
  rw [Nat.zero_add]
  exact hcs _ _ h1
end

section
variable {B : Nat} {w : World} {v : Value}
theorem ScW.read {L : List Sc} {V : List Value} (h : ScW B w v L V) : ∃ a c, v = .slice a L.length c ∧ L.length ≤ c ∧ ScR w a L V := by
  obtain ⟨a, c, rfl, hc, hrow⟩ := owns_read h.own
  refine ⟨a, c, rfl, hc, fun hn => ?_⟩
  obtain ⟨g, cur, rfl, -, hg, -, hcs⟩ := hrow hn
  refine ⟨g, 0, rfl, hg.lt, fun k hk hk' j hj => ?_⟩
  have h1 := scCs_at L V k j hk hk' hj
  have h2 : j < (scC L[k] V[k]).length := by simpa [scC] using hj
  rw [List.getElem?_eq_getElem h2] at h1 ⊢
  rw [Nat.zero_add]
  exact hcs _ _ h1
end

section
variable {B : Nat} {w : World} {v : Value}
theorem CfW.read {C : Cf} (h : CfW B w v C) (f : Fits C) : CfR w v C := by
  obtain ⟨vL, vS, V, rfl, h1, h2⟩ := h.ex
  obtain ⟨a, c, rfl, hc, hL⟩ := h1.read
  obtain ⟨a', c', rfl, hc', hS⟩ := h2.read
  exact ⟨f.sz, f.nm, a, c, a', c', V, rfl, hc, hc', hL, h2.len, hS, fun k hk hk' => (h2.rls k hk hk').read (f.rl _ (List.getElem_mem hk)).1 (f.rl _ (List.getElem_mem hk)).2⟩
end

section
variable {B : Nat} {w : World} {v : Value}
theorem LsR.fits {L : List ByteArray} (h : LsR w v L) : LsF L := by
  obtain ⟨_, _, _, _, _, h1, h2⟩ := h
  exact ⟨h1, h2⟩
end

section
variable {B : Nat} {w : World} {v : Value}
theorem RlR.fits {rs : List Rl} (h : RlR w v rs) : rs.length ≤ 9223372036854775807 ∧ ∀ r ∈ rs, RlF r := by
  obtain ⟨a, c, _, h1, h2⟩ := h
  refine ⟨h1, fun r hr => ?_⟩
  obtain ⟨k, hk, rfl⟩ := List.getElem_of_mem hr
  obtain ⟨b, off, _, _, h3⟩ := h2 (by omega)
  obtain ⟨_, _, _, _, _, _, r0, r1, r2, r3, r4⟩ := h3 k hk
  exact ⟨r0.fits, r1.fits, r2.fits, r3.fits, r4.fits⟩
end

section
variable {B : Nat} {w : World} {v : Value}
theorem CfR.fits {C : Cf} (h : CfR w v C) : Fits C := by
  refine ⟨h.sz, h.nm, fun s hs => ?_⟩
  obtain ⟨aL, cL, aS, cS, V, _, _, _, _, hV, _, hR⟩ := h.ex
  obtain ⟨k, hk, rfl⟩ := List.getElem_of_mem hs
  exact (hR k hk (by omega)).fits
end

section
variable {B : Nat} {w : World} {v : Value}
/-- The rules' cells that are read. -/
theorem RlR.five {rs : List Rl} (h : RlR w v rs) : ∃ a c Q, v = .slice a rs.length c ∧ Q.length = rs.length ∧ (0 < rs.length → ∃ b off, a = some ⟨b, off, none⟩ ∧ b < w.heap.size ∧ ∀ i u, (q5C Q)[i]? = some u → w.cell? ⟨b, off + i, none⟩ = some u) ∧ ∀ k (h : k < rs.length) (h' : k < Q.length), RuR w Q[k].v0 Q[k].v1 Q[k].v2 Q[k].v3 Q[k].v4 rs[k] := by
  obtain ⟨a, c, rfl, h1, h2⟩ := h
  rcases Nat.eq_zero_or_pos rs.length with h0 | h0
  · have : rs = [] := List.length_eq_zero_iff.1 h0
    subst this
    exact ⟨a, c, [], rfl, rfl, fun h => absurd h (Nat.lt_irrefl 0), fun k h => absurd h (Nat.not_lt_zero _)⟩
  · obtain ⟨b, off, rfl, hb, h3⟩ := h2 h0
    have h4 : ∀ k : Fin rs.length, ∃ q : Q5, (∀ j, j < 5 → w.cell? ⟨b, off + k.1 * 5 + j, none⟩ = (q5L q)[j]?) ∧ RuR w q.v0 q.v1 q.v2 q.v3 q.v4 rs[k.1] := fun k => by
      obtain ⟨v0, v1, v2, v3, v4, ⟨z0, z1, z2, z3, z4⟩, hr⟩ := h3 k.1 k.2
      refine ⟨⟨v0, v1, v2, v3, v4⟩, fun j hj => ?_, hr⟩
      match j, hj with
      | 0, _ => exact z0
      | 1, _ => exact z1
      | 2, _ => exact z2
      | 3, _ => exact z3
      | 4, _ => exact z4
    obtain ⟨q, hq⟩ := Classical.axiomOfChoice h4
    refine ⟨some ⟨b, off, none⟩, c, List.ofFn q, rfl, by simp, fun _ => ⟨b, off, rfl, hb, fun i u hu => ?_⟩, fun k hk hk' => ?_⟩
    · have hi : i < (q5C (List.ofFn q)).length := by
        rcases Nat.lt_or_ge i (q5C (List.ofFn q)).length with h | h
        · exact h
        · rw [List.getElem?_eq_none h] at hu; cases hu
      rw [q5C_len] at hi
      simp at hi
      have hk : i / 5 < rs.length := by omega
      have e1 : i / 5 * 5 + i % 5 = i := by omega
      have e2 := q5C_at (List.ofFn q) (i / 5) (i % 5) (by simpa using hk) (Nat.mod_lt _ (by decide))
      rw [e1, hu] at e2
      have e3 := (hq ⟨i / 5, hk⟩).1 (i % 5) (Nat.mod_lt _ (by decide))
      rw [show off + i = off + i / 5 * 5 + i % 5 by omega, e3]
      simpa using e2.symm
    · simpa using (hq ⟨k, hk⟩).2
end

section
variable {B : Nat} {w : World} {v : Value}
/-- The levels' cells, as they are copied. -/
theorem LvR.news {a : Option Addr} {L : List Lv} (h : LvR w a L) (hn : 0 < L.length) : ∃ b off, a = some ⟨b, off, none⟩ ∧ b < w.heap.size ∧ ∀ i u, (lvCs L)[i]? = some u → w.cell? ⟨b, off + i, none⟩ = some u := by
  obtain ⟨b, off, rfl, hb, hc⟩ := h hn
  refine ⟨b, off, rfl, hb, fun i u hu => ?_⟩
  have hi : i < (lvCs L).length := by
    rcases Nat.lt_or_ge i (lvCs L).length with h | h
    · exact h
    · rw [List.getElem?_eq_none h] at hu; cases hu
  rw [lvCs_len] at hi
  have hk : i / 10 < L.length := by omega
  have e1 : i / 10 * 10 + i % 10 = i := by omega
  have e2 := lvCs_at L (i / 10) (i % 10) hk (Nat.mod_lt _ (by decide))
  rw [e1, hu] at e2
  rw [show off + i = off + i / 10 * 10 + i % 10 by omega, hc _ hk _ (Nat.mod_lt _ (by decide)), ← e2]
end

section
variable {B : Nat} {w : World} {v : Value}
theorem ScR.news {a : Option Addr} {L : List Sc} {V : List Value} (h : ScR w a L V) (hV : V.length = L.length) (hn : 0 < L.length) : ∃ b off, a = some ⟨b, off, none⟩ ∧ b < w.heap.size ∧ ∀ i u, (scCs L V)[i]? = some u → w.cell? ⟨b, off + i, none⟩ = some u := by
  obtain ⟨b, off, rfl, hb, hc⟩ := h hn
  refine ⟨b, off, rfl, hb, fun i u hu => ?_⟩
  have hi : i < (scCs L V).length := by
    rcases Nat.lt_or_ge i (scCs L V).length with h | h
    · exact h
    · rw [List.getElem?_eq_none h] at hu; cases hu
  rw [scCs_len L V hV] at hi
  have hk : i / 5 < L.length := by omega
  have e1 : i / 5 * 5 + i % 5 = i := by omega
  have e2 := scCs_at L V (i / 5) (i % 5) hk (by omega) (Nat.mod_lt _ (by decide))
  rw [e1, hu] at e2
  rw [show off + i = off + i / 5 * 5 + i % 5 by omega, hc _ hk (by omega) _ (Nat.mod_lt _ (by decide)), ← e2]
end

theorem lvCs_one : ∀ (L : List Lv), ∀ u ∈ lvCs L, u.oneCell' = true
  | [], u, h => by simp [lvCs] at h
  | l :: L, u, h => by
    simp only [lvCs, lvC, List.cons_append, List.nil_append, List.mem_cons] at h
    rcases h with rfl | rfl | rfl | rfl | rfl | rfl | rfl | rfl | rfl | rfl | h
    all_goals first | rfl | exact lvCs_one L u h

theorem info37c : (Tryz.prog.info? 45).map (fun i => (i.zero, i.size, i.bytes)) = some (some (.agg #[.string ByteArray.empty, .int .i64 0, .int .i64 0, .int .i64 0, .int .i64 0, .int .i64 0, .int .i64 0, .int .i64 0, .int .i64 0, .int .i64 0]), 10, 88) := by kernel_rfl

theorem info40c : (Tryz.prog.info? 53).map (fun i => (i.zero, i.size, i.bytes)) = some (some (.agg #[.string ByteArray.empty, .string ByteArray.empty, .int .i64 0, .int .i64 0, .slice none 0 0]), 5, 72) := by kernel_rfl

theorem info43c : (Tryz.prog.info? 50).map (fun i => (i.zero, i.size, i.bytes)) = some (some (.agg #[.slice none 0 0, .slice none 0 0, .slice none 0 0, .slice none 0 0, .slice none 0 0]), 5, 120) := by kernel_rfl

theorem Blk.alloc {w : World} {b t : Nat} {cs : Array Value} (h : Blk w b t cs) (o : Obj) : Blk (w.alloc o) b t cs := h.kept (Kept.of_below (alloc_below w o) (fun _ => False)) id

theorem alloc_new (w : World) (o : Obj) (t : Nat) (cs : Array Value) : Blk ((w.alloc o).alloc (.cells cs t)) (w.heap.size + 1) t cs := by
  have := Blk.new (w.alloc o) t cs
  simpa using this

theorem LvW.put {B : Nat} {w : World} {v : Value} {L : List Lv} {l : Lv} (h : w.ownsRow B 45 10 v (L.length + 1) (lvCs L ++ lvC l)) : LvW B w v (L ++ [l]) := by
  unfold LvW
  rw [lvCs_append, List.length_append]
  simpa [lvCs] using h

theorem RlW.lt {B : Nat} {w : World} {v : Value} {rs : List Rl} (h : RlW B w v rs) {g : Nat} (hg : v.ownBlock = some g) : B ≤ g ∧ g < w.heap.size := by
  obtain ⟨Q, -, ho, -⟩ := h.ex
  exact ho.lt g hg

/-- One more schema is put behind. -/
theorem ScW.put {B : Nat} {w1 w2 : World} {v v2 u : Value} {S : List Sc} {V : List Value} {s : Sc} (h : ScW B w1 v S V) (hu : RlW B w1 u s.rules) (hf : ∀ k (h : k < V.length) g, V[k].ownBlock = some g → u.ownBlock ≠ some g)
    (ho : w2.ownsRow B 53 5 v2 (S.length + 1) (scCs S V ++ scC s u)) (hg : w1.grownBy w2 v.ownBlock) : ScW B w2 v2 (S ++ [s]) (V ++ [u]) := by
  have K : Kept (fun k => v.ownBlock = some k) w1 w2 := Kept.of_grown hg (fun _ h => h)
  have o9 := off_own h.own (by decide : 53 ≠ 9)
  have o37 := off_own h.own (by decide : 53 ≠ 50)
  have hl := h.len
  refine ⟨by simp [hl], ?_, fun k h1 h2 => ?_, fun p q hp hq hpq g hgp => ?_⟩
  · rw [scCs_append _ _ _ _ hl, List.length_append]
    simpa [scCs] using ho
  · by_cases e : k < S.length
    · rw [List.getElem_append_left e, List.getElem_append_left (by omega)]
      exact (h.rls k e (by omega)).off K o9 o37
    · have e2 : k = S.length := by simp at h1; omega
      subst e2
      simp only [List.getElem_append_right (Nat.le_refl _), List.getElem_append_right (Nat.le_of_eq hl)]
      simpa using hu.off K o9 o37
  · simp only [List.length_append, List.length_singleton] at hp hq
    by_cases e : q < V.length
    · rw [List.getElem_append_left (by omega)] at hgp
      rw [List.getElem_append_left e]
      exact h.dj p q (by omega) e hpq g hgp
    · rw [List.getElem_append_left (by omega)] at hgp
      rw [List.getElem_append_right (by omega)]
      simpa using hf p (by omega) g hgp

theorem scC_one {B : Nat} {w : World} {u : Value} {rs : List Rl} (h : RlW B w u rs) (s : Sc) : ∀ x ∈ scC s u, x.oneCell' = true := fun x hx => by
  obtain ⟨Q, -, ho, -⟩ := h.ex
  obtain ⟨a, c, rfl, -⟩ := owns_read ho
  simp only [scC, List.mem_cons, List.not_mem_nil, or_false] at hx
  rcases hx with rfl | rfl | rfl | rfl | rfl <;> rfl

theorem RlW.shape {B : Nat} {w : World} {u : Value} {rs : List Rl} (h : RlW B w u rs) : ∃ a c, u = .slice a rs.length c := by
  obtain ⟨Q, -, ho, -⟩ := h.ex
  obtain ⟨a, c, rfl, -⟩ := owns_read ho
  exact ⟨a, c, rfl⟩

structure FCf (w : World) (C : Cf) (e : Ending) (w' : World) : Prop where
  ex : ∃ v', e = .returned v' ∧ CfW w.heap.size w' v' C
  bel : Below w.heap.size w w'

/-- Two boxes of a configuration. -/
structure Tw (g1 g2 : Nat) (c1 c2 : Array Value) (w : World) : Prop where
  b1 : Blk w g1 25 c1
  b2 : Blk w g2 25 c2

theorem Tw.kept {g1 g2 : Nat} {c1 c2 : Array Value} {w w' : World} (h : Tw g1 g2 c1 c2 w) (k : Kept (fun _ => False) w w') (_ : False → False) : Tw g1 g2 c1 c2 w' := ⟨h.b1.kept k id, h.b2.kept k id⟩

/-- Six cells of a box are written. -/
theorem six_set {w : World} {g : Nat} {z0 z1 z2 z3 z4 z5 : Value} (h : Blk w g 25 #[z0, z1, z2, z3, z4, z5]) (v0 v1 v2 v3 v4 v5 : Value) :
    Blk ((((((w.setCell ⟨g, 0, none⟩ v0).setCell ⟨g, 1, none⟩ v1).setCell ⟨g, 2, none⟩ v2).setCell ⟨g, 3, none⟩ v3).setCell ⟨g, 4, none⟩ v4).setCell ⟨g, 5, none⟩ v5) g 25 #[v0, v1, v2, v3, v4, v5]
    ∧ Kept (fun k => k = g) w ((((((w.setCell ⟨g, 0, none⟩ v0).setCell ⟨g, 1, none⟩ v1).setCell ⟨g, 2, none⟩ v2).setCell ⟨g, 3, none⟩ v3).setCell ⟨g, 4, none⟩ v4).setCell ⟨g, 5, none⟩ v5) := by
  refine ⟨?_, ((((((Kept.refl (fun k => k = g) w).setCell _ _ (.inl rfl)).setCell _ _ (.inl rfl)).setCell _ _ (.inl rfl)).setCell _ _ (.inl rfl)).setCell _ _ (.inl rfl)).setCell _ _ (.inl rfl)⟩
  have := (((((h.set 0 v0).set 1 v1).set 2 v2).set 3 v3).set 4 v4).set 5 v5
  simpa using this

/-- One more rule is put behind. -/
theorem RlW.put {B : Nat} {w1 w2 : World} {v v2 : Value} {rs : List Rl} {Q : List Q5} {q : Q5} {r : Rl} (hl : Q.length = rs.length) (h : w1.ownsRow B 50 5 v rs.length (q5C Q)) (hr : ∀ k (h : k < rs.length) (h' : k < Q.length), RuW B w1 Q[k] rs[k]) (hq : RuW B w1 q r)
    (ho : w2.ownsRow B 50 5 v2 (rs.length + 1) (q5C Q ++ q5L q)) (hg : w1.grownBy w2 v.ownBlock) : RlW B w2 v2 (rs ++ [r]) := by
  have K : Kept (fun k => v.ownBlock = some k) w1 w2 := Kept.of_grown hg (fun _ h => h)
  have o9 := off_own h (by decide : 50 ≠ 9)
  refine ⟨Q ++ [q], by simp [hl], ?_, fun k h1 h2 => ?_⟩
  · rw [q5C_append, List.length_append]
    simpa [q5C] using ho
  · by_cases e : k < rs.length
    · rw [List.getElem_append_left e, List.getElem_append_left (by omega)]
      exact (hr k e (by omega)).off K o9
    · have e2 : k = rs.length := by simp at h1; omega
      subst e2
      simp only [List.getElem_append_right (Nat.le_refl _), List.getElem_append_right (Nat.le_of_eq hl)]
      simpa using hq.off K o9

theorem q5L_one {B : Nat} {w : World} {q : Q5} {r : Rl} (h : RuW B w q r) : ∀ u ∈ q5L q, u.oneCell' = true := fun u hu => by
  obtain ⟨⟨a0, c0, e0, -⟩, ⟨a1, c1, e1, -⟩, ⟨a2, c2, e2, -⟩, ⟨a3, c3, e3, -⟩, ⟨a4, c4, e4, -⟩⟩ := And.intro h.1.shape (And.intro h.2.1.shape (And.intro h.2.2.1.shape (And.intro h.2.2.2.1.shape h.2.2.2.2.shape)))
  simp only [q5L, List.mem_cons, List.not_mem_nil, or_false] at hu
  rcases hu with rfl | rfl | rfl | rfl | rfl
  · rw [e0]; rfl
  · rw [e1]; rfl
  · rw [e2]; rfl
  · rw [e3]; rfl
  · rw [e4]; rfl

/-- The copy behind i schemas. -/
structure C1 (w wr : World) (A : Nat) (z : Array Value) (x0 x1 x2 x3 : Int) (vL vS : Value) (L : List Lv) (S : List Sc) (vo : Value) (i : Nat) : Prop where
  bel : Below w.heap.size w wr
  box : Blk wr A 25 #[.int .i64 x0, .int .i64 x1, .int .i64 x2, .int .i64 x3, vL, vS]
  res : Blk wr (A + 1) 25 z
  lv : LvW w.heap.size wr vL L
  out : ∃ V, ScW w.heap.size wr vo (S.take i) V

section
variable {w wr w1 w2 : World} {A : Nat} {z : Array Value} {x0 x1 x2 x3 : Int} {vL vS vo v2 u : Value} {L : List Lv} {S : List Sc} {i : Nat} {V : List Value}
theorem C1.grown (h : C1 w wr A z x0 x1 x2 x3 vL vS L S vo i) (b : Below wr.heap.size wr w1) : C1 w w1 A z x0 x1 x2 x3 vL vS L S vo i := by
  obtain ⟨V, hV⟩ := h.out
  have k : Kept (fun _ => False) wr w1 := Kept.of_below b _
  exact ⟨h.bel.trans (b.mono h.bel.size), h.box.kept k id, h.res.kept k id, h.lv.grown b, V, hV.grown b⟩
end

section
variable {w wr w1 w2 : World} {A : Nat} {z : Array Value} {x0 x1 x2 x3 : Int} {vL vS vo v2 u : Value} {L : List Lv} {S : List Sc} {i : Nat} {V : List Value}
theorem C1.step (h : C1 w wr A z x0 x1 x2 x3 vL vS L S vo i) (hi : i < S.length) (hV : ScW w.heap.size wr vo (S.take i) V) (b : Below wr.heap.size wr w1) (hu : RlW wr.heap.size w1 u S[i].rules)
    (ho : w2.ownsRow w.heap.size 53 5 v2 (i + 1) (scCs (S.take i) V ++ scC S[i] u)) (hg : w1.grownBy w2 vo.ownBlock) (hs : w.heap.size ≤ wr.heap.size) : C1 w w2 A z x0 x1 x2 x3 vL vS L S v2 (i + 1) := by
  have V1 := hV.grown b
  have G1 := h.grown b
  have K : Kept (fun k => vo.ownBlock = some k) w1 w2 := Kept.of_grown hg (fun _ h => h)
  have hlen : (S.take i).length = i := by rw [List.length_take]; omega
  have hB : Below w.heap.size w1 w2 := K.below (Nat.le_trans hs b.size) (fun k hk => (V1.own.lt k hk).1)
  have P := ScW.put (s := S[i]) V1 (hu.mono hs) (fun k hk g hg1 hg2 => by
    have h1 := ((hV.rls k (by rw [← hV.len]; exact hk) hk).lt hg1).2
    have h2 := (hu.lt hg2).1
    omega) (by rw [hlen]; exact ho) hg
  rw [List.take_append_getElem hi] at P
  exact ⟨G1.bel.trans hB, G1.box.kept K (fun e => off_own V1.own (by decide : 53 ≠ 25) A _ G1.box e), G1.res.kept K (fun e => off_own V1.own (by decide : 53 ≠ 25) _ _ G1.res e), LvW.off G1.lv K (off_own V1.own (by decide : 53 ≠ 45)), _, P⟩
end

/-- The rules of one schema behind k of them. -/
structure C2 (wr w2 : World) (g : Nat) (c : Array Value) (rs : List Rl) (vr : Value) (k : Nat) : Prop where
  bel : Below wr.heap.size wr w2
  box : Blk w2 g 53 c
  rls : RlW wr.heap.size w2 vr (rs.take k)

theorem C2.grown {wr w2 w3 : World} {g : Nat} {c : Array Value} {rs : List Rl} {vr : Value} {k : Nat} (h : C2 wr w2 g c rs vr k) (b : Below w2.heap.size w2 w3) : C2 wr w3 g c rs vr k :=
  ⟨h.bel.trans (b.mono h.bel.size), h.box.kept (Kept.of_below b (fun _ => False)) id, h.rls.off (Kept.of_below b (fun _ => False)) (Off.none _ _) (Off.none _ _)⟩
end Go.Proofs.YtijjpblmnlednaaGreatDoor
