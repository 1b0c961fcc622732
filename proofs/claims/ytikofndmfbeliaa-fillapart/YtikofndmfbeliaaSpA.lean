/-
  A configuration that is written over: the room in its blocks, step by step. No condition.
-/
import Derived.Test.YtikofndmfbeliaaRfF
namespace Go.Proofs.Ytikofndmfbeliaa
open Go.RowKit

/-- A block of the type t with room for k cells. -/
def Rm (w : World) (b t k : Nat) : Prop := ∃ cur, Blk w b t cur ∧ k ≤ cur.size
theorem Rm.cell {w : World} {b t k i : Nat} (h : Rm w b t k) (hi : i < k) : (∃ y, w.cell? ⟨b, i, none⟩ = some y) ∧ w.frozen? ⟨b, i, none⟩ = false := by
  obtain ⟨cur, hb, hk⟩ := h
  exact ⟨⟨cur[i], by rw [hb.cell i]; exact Array.getElem?_eq_getElem (by omega)⟩, hb.frozen i⟩
theorem Rm.set {w : World} {b t k : Nat} (h : Rm w b t k) (i : Nat) (v : Value) : Rm (w.setCell ⟨b, i, none⟩ v) b t k := by
  obtain ⟨cur, hb, hk⟩ := h
  exact ⟨_, hb.set i v, by simpa using hk⟩
/-- All that is no text stays; blocks of texts keep their room. -/
structure K9 (w w' : World) : Prop where
  size : w.heap.size ≤ w'.heap.size
  os : w'.os = w.os
  tape : w'.tape = w.tape
  output : w'.output = w.output
  oth : ∀ b t cur, t ≠ 9 → Blk w b t cur → Blk w' b t cur
  txt : ∀ b k, Rm w b 9 k → Rm w' b 9 k
theorem K9.refl (w : World) : K9 w w := ⟨Nat.le_refl _, rfl, rfl, rfl, fun _ _ _ _ h => h, fun _ _ h => h⟩
theorem K9.trans {a b c : World} (h : K9 a b) (k : K9 b c) : K9 a c :=
  ⟨Nat.le_trans h.size k.size, k.os.trans h.os, k.tape.trans h.tape, k.output.trans h.output, fun i t cur ht hb => k.oth i t cur ht (h.oth i t cur ht hb), fun i n hr => k.txt i n (h.txt i n hr)⟩
theorem K9.of_below {w w' : World} (b : Below w.heap.size w w') : K9 w w' :=
  ⟨b.size, b.os, b.tape, b.output, fun _ _ _ _ hb => hb.kept (Kept.of_below b (fun _ => False)) id, fun _ _ ⟨cur, hb, hk⟩ => ⟨cur, hb.kept (Kept.of_below b (fun _ => False)) id, hk⟩⟩
theorem K9.set {w : World} {b k i : Nat} (h : Rm w b 9 k) (v : Value) : K9 w (w.setCell ⟨b, i, none⟩ v) := by
  obtain ⟨cur, hb, hk⟩ := h
  refine ⟨by simp, rfl, rfl, rfl, fun g t c ht hg => hg.other (fun e => hb.ne hg (fun e2 => ht e2.symm) e.symm) v, fun g n hr => ?_⟩
  by_cases e : g = b
  · subst e; exact hr.set i v
  · obtain ⟨c, hc, hn⟩ := hr
    exact ⟨c, hc.other e v, hn⟩
/-- A list in which there is room. -/
def LsX (B : Nat) (w : World) (v : Value) : Prop := ∃ a n c, v = .slice a n c ∧ n ≤ 100000 ∧ n ≤ c ∧ (0 < n → ∃ b, a = some ⟨b, 0, none⟩ ∧ B ≤ b ∧ Rm w b 9 n)
theorem OwnT.room {B : Nat} {w : World} {v : Value} {L : List ByteArray} (h : OwnT B w v L) (hl : L.length ≤ 100000) : LsX B w v := by
  obtain ⟨a, c, e, hc, hrow⟩ := owns_read h
  refine ⟨a, L.length, c, e, hl, hc, fun hn => ?_⟩
  obtain ⟨g, cur, ea, hB, hg, hs, -⟩ := hrow hn
  exact ⟨g, ea, hB, cur, hg, by omega⟩
theorem LsX.k9 {B : Nat} {w w' : World} {v : Value} (h : LsX B w v) (k : K9 w w') : LsX B w' v := by
  obtain ⟨a, n, c, e, h1, h2, h3⟩ := h
  exact ⟨a, n, c, e, h1, h2, fun hn => by obtain ⟨b, ea, hB, hr⟩ := h3 hn; exact ⟨b, ea, hB, k.txt b n hr⟩⟩
theorem LsX.off {B : Nat} {S : Nat → Prop} {w w' : World} {v : Value} (h : LsX B w v) (k : Kept S w w') (o : Off 9 S w) : LsX B w' v := by
  obtain ⟨a, n, c, e, h1, h2, h3⟩ := h
  exact ⟨a, n, c, e, h1, h2, fun hn => by obtain ⟨b, ea, hB, cur, hb, hk⟩ := h3 hn; exact ⟨b, ea, hB, cur, hb.kept k (o b cur hb), hk⟩⟩
def QX (B : Nat) (w : World) (q : Q5) : Prop := LsX B w q.v0 ∧ LsX B w q.v1 ∧ LsX B w q.v2 ∧ LsX B w q.v3 ∧ LsX B w q.v4
theorem QX.k9 {B : Nat} {w w' : World} {q : Q5} (h : QX B w q) (k : K9 w w') : QX B w' q := ⟨h.1.k9 k, h.2.1.k9 k, h.2.2.1.k9 k, h.2.2.2.1.k9 k, h.2.2.2.2.k9 k⟩
theorem QX.off {B : Nat} {S : Nat → Prop} {w w' : World} {q : Q5} (h : QX B w q) (k : Kept S w w') (o : Off 9 S w) : QX B w' q := ⟨h.1.off k o, h.2.1.off k o, h.2.2.1.off k o, h.2.2.2.1.off k o, h.2.2.2.2.off k o⟩
/-- Rules of which those from lo on are as they were. -/
structure RX (B : Nat) (w : World) (a : Option Addr) (n : Nat) (Q : List Q5) (lo : Nat) : Prop where
  len : Q.length = n
  le : n ≤ 100000
  qx : ∀ p (h : p < Q.length), QX B w Q[p]
  row : 0 < n → ∃ g cur, a = some ⟨g, 0, none⟩ ∧ B ≤ g ∧ Blk w g 37 cur ∧ n * 5 ≤ cur.size ∧ ∀ p (h : p < Q.length), lo ≤ p → ∀ j, j < 5 → cur[p * 5 + j]? = (q5L Q[p])[j]?
theorem RX.k9 {B : Nat} {w w' : World} {a : Option Addr} {n lo : Nat} {Q : List Q5} (h : RX B w a n Q lo) (k : K9 w w') : RX B w' a n Q lo :=
  ⟨h.len, h.le, fun p hp => (h.qx p hp).k9 k, fun hn => by obtain ⟨g, cur, e, hB, hg, r⟩ := h.row hn; exact ⟨g, cur, e, hB, k.oth g 37 cur (by decide) hg, r⟩⟩
theorem RX.off {B : Nat} {S : Nat → Prop} {w w' : World} {a : Option Addr} {n lo : Nat} {Q : List Q5} (h : RX B w a n Q lo) (k : Kept S w w') (o : Off 9 S w) (hS : ∀ g cur, a = some ⟨g, 0, none⟩ → Blk w g 37 cur → ¬ S g) : RX B w' a n Q lo :=
  ⟨h.len, h.le, fun p hp => (h.qx p hp).off k o, fun hn => by obtain ⟨g, cur, e, hB, hg, r⟩ := h.row hn; exact ⟨g, cur, e, hB, hg.kept k (hS g cur e hg), r⟩⟩
theorem RlW.room {B : Nat} {w : World} {v : Value} {rs : List Rl} (h : RlW B w v rs) (hl : rs.length ≤ 100000) (hb : ∀ r ∈ rs, RlN 100000 r) : ∃ a c Q, v = .slice a rs.length c ∧ rs.length ≤ c ∧ RX B w a rs.length Q 0 := by
  obtain ⟨Q, hQ, ho, hr⟩ := h.ex
  obtain ⟨a, c, e, hc, hrow⟩ := owns_read ho
  refine ⟨a, c, Q, e, hc, hQ, hl, fun p hp => ?_, fun hn => ?_⟩
  · have hp' : p < rs.length := by omega
    obtain ⟨o0, o1, o2, o3, o4⟩ := hr p hp' hp
    obtain ⟨l0, l1, l2, l3, l4⟩ := hb rs[p] (List.getElem_mem hp')
    exact ⟨o0.room l0, o1.room l1, o2.room l2, o3.room l3, o4.room l4⟩
  · obtain ⟨g, cur, ea, hB, hg, hs, hcs⟩ := hrow hn
    refine ⟨g, cur, ea, hB, hg, by rw [hs]; exact Nat.mul_le_mul_right 5 hc, fun p hp _ j hj => ?_⟩
    have h1 := q5C_at Q p j hp hj
    have h2 : j < (q5L Q[p]).length := hj
    rw [List.getElem?_eq_getElem h2] at h1 ⊢
    rw [← hg.cell]
    exact hcs _ _ h1
/-- Rule p of this row is written over. -/
theorem RX.wipe {B : Nat} {w : World} {g n p : Nat} {Q : List Q5} (h : RX B w (some ⟨g, 0, none⟩) n Q p) (hp : p < n) (v0 v1 v2 v3 v4 : Value) :
    RX B (((((w.setCell ⟨g, p * 5, none⟩ v0).setCell ⟨g, p * 5 + 1, none⟩ v1).setCell ⟨g, p * 5 + 2, none⟩ v2).setCell ⟨g, p * 5 + 3, none⟩ v3).setCell ⟨g, p * 5 + 4, none⟩ v4) (some ⟨g, 0, none⟩) n Q (p + 1)
    ∧ Kept (fun k => k = g) w (((((w.setCell ⟨g, p * 5, none⟩ v0).setCell ⟨g, p * 5 + 1, none⟩ v1).setCell ⟨g, p * 5 + 2, none⟩ v2).setCell ⟨g, p * 5 + 3, none⟩ v3).setCell ⟨g, p * 5 + 4, none⟩ v4)
    ∧ B ≤ g ∧ (∃ cur, Blk w g 37 cur) ∧ Rm w g 37 (n * 5) := by
  obtain ⟨g', cur, e, hB, hg, hs, hc⟩ := h.row (by omega)
  injection e with e
  injection e with e
  subst e
  have K : Kept (fun k => k = g) w (((((w.setCell ⟨g, p * 5, none⟩ v0).setCell ⟨g, p * 5 + 1, none⟩ v1).setCell ⟨g, p * 5 + 2, none⟩ v2).setCell ⟨g, p * 5 + 3, none⟩ v3).setCell ⟨g, p * 5 + 4, none⟩ v4) := (((((Kept.refl (fun k => k = g) w).setCell _ _ (.inl rfl)).setCell _ _ (.inl rfl)).setCell _ _ (.inl rfl)).setCell _ _ (.inl rfl)).setCell _ _ (.inl rfl)
  refine ⟨⟨h.len, h.le, fun q hq => (h.qx q hq).off K (off_blk hg (by decide)), fun _ => ⟨g, _, rfl, hB, ((((hg.set (p * 5) v0).set (p * 5 + 1) v1).set (p * 5 + 2) v2).set (p * 5 + 3) v3).set (p * 5 + 4) v4, by simpa using hs, fun q hq hlo j hj => ?_⟩⟩, K, hB, ⟨cur, hg⟩, cur, hg, hs⟩
  rw [Array.getElem?_setIfInBounds_ne (by omega), Array.getElem?_setIfInBounds_ne (by omega), Array.getElem?_setIfInBounds_ne (by omega), Array.getElem?_setIfInBounds_ne (by omega), Array.getElem?_setIfInBounds_ne (by omega)]
  exact hc q hq (by omega) j hj

/-- The schemas of which i are written over. -/
structure S2 (w5 wr : World) (gd : Nat) (d6 : Array Value) (eS : Option Addr) (mm : Nat) (V : List Value) (i : Nat) : Prop where
  bel : Below w5.heap.size w5 wr
  box : Blk wr gd 25 d6
  sch : 0 < mm → ∃ g cur, eS = some ⟨g, 0, none⟩ ∧ w5.heap.size ≤ g ∧ Blk wr g 34 cur ∧ mm * 5 ≤ cur.size ∧ ∀ k (h : k < V.length), i ≤ k → cur[k * 5 + 4]? = some V[k]
  rls : ∀ k (h : k < V.length), i ≤ k → ∃ a n c Q, V[k] = .slice a n c ∧ n ≤ c ∧ RX w5.heap.size wr a n Q 0
  dj : Dj V
  len : V.length = mm
/-- .. and, of schema i, rules below p. -/
structure S3 (w5 wr : World) (gd : Nat) (d6 : Array Value) (eS : Option Addr) (mm : Nat) (V : List Value) (i : Nat) (a : Option Addr) (n : Nat) (Q : List Q5) (p : Nat) : Prop where
  bel : Below w5.heap.size w5 wr
  box : Blk wr gd 25 d6
  sch : 0 < mm → ∃ g cur, eS = some ⟨g, 0, none⟩ ∧ w5.heap.size ≤ g ∧ Blk wr g 34 cur ∧ mm * 5 ≤ cur.size ∧ ∀ k (h : k < V.length), i ≤ k → cur[k * 5 + 4]? = some V[k]
  rls : ∀ k (h : k < V.length), i < k → ∃ a n c Q, V[k] = .slice a n c ∧ n ≤ c ∧ RX w5.heap.size wr a n Q 0
  own : RX w5.heap.size wr a n Q p
  dj : ∀ k (h : k < V.length), i < k → ∀ g, a = some ⟨g, 0, none⟩ → V[k].ownBlock ≠ some g
  djj : Dj V
  len : V.length = mm
section
variable {w5 wr w' : World} {gd mm i n p : Nat} {d6 : Array Value} {eS a : Option Addr} {V : List Value} {Q : List Q5}
theorem S2.enter (h : S2 w5 wr gd d6 eS mm V i) (hi : i < V.length) : ∃ a n c Q, V[i] = .slice a n c ∧ n ≤ c ∧ S3 w5 wr gd d6 eS mm V i a n Q 0 := by
  obtain ⟨a, n, c, Q, e, hc, hx⟩ := h.rls i hi (Nat.le_refl _)
  refine ⟨a, n, c, Q, e, hc, h.bel, h.box, h.sch, fun k hk hik => h.rls k hk (Nat.le_of_lt hik), hx, fun k hk hik g hg => ?_, h.dj, h.len⟩
  exact h.dj i k hi hk hik g (by rw [e, hg]; rfl)
theorem S3.k9 (h : S3 w5 wr gd d6 eS mm V i a n Q p) (k : K9 wr w') (b : Below w5.heap.size w5 w') : S3 w5 w' gd d6 eS mm V i a n Q p :=
  ⟨b, k.oth _ 25 _ (by decide) h.box, fun hm => by obtain ⟨g, cur, e, hB, hg, r⟩ := h.sch hm; exact ⟨g, cur, e, hB, k.oth g 34 cur (by decide) hg, r⟩,
    fun j hj hij => by obtain ⟨a', n', c', Q', e, hc, hx⟩ := h.rls j hj hij; exact ⟨a', n', c', Q', e, hc, hx.k9 k⟩, h.own.k9 k, h.dj, h.djj, h.len⟩
theorem S3.wipe {g : Nat} (h : S3 w5 wr gd d6 eS mm V i (some ⟨g, 0, none⟩) n Q p) (hp : p < n) (v0 v1 v2 v3 v4 : Value) :
    S3 w5 (((((wr.setCell ⟨g, p * 5, none⟩ v0).setCell ⟨g, p * 5 + 1, none⟩ v1).setCell ⟨g, p * 5 + 2, none⟩ v2).setCell ⟨g, p * 5 + 3, none⟩ v3).setCell ⟨g, p * 5 + 4, none⟩ v4) gd d6 eS mm V i (some ⟨g, 0, none⟩) n Q (p + 1) := by
  obtain ⟨X, K, hB, ⟨cur, hg⟩, -⟩ := h.own.wipe hp v0 v1 v2 v3 v4
  refine ⟨h.bel.trans (K.below h.bel.size (fun k hk => by rw [hk]; exact hB)), h.box.kept K (off_blk hg (by decide : 37 ≠ 25) _ _ h.box), fun hm => ?_, fun j hj hij => ?_, X, h.dj, h.djj, h.len⟩
  · obtain ⟨g', cur', e, hB', hg', r⟩ := h.sch hm
    exact ⟨g', cur', e, hB', hg'.kept K (off_blk hg (by decide : 37 ≠ 34) _ _ hg'), r⟩
  · obtain ⟨a', n', c', Q', e, hc, hx⟩ := h.rls j hj hij
    exact ⟨a', n', c', Q', e, hc, hx.off K (off_blk hg (by decide)) (fun g2 _ e2 _ e3 => h.dj j hj hij g rfl (by rw [e, e2, ← e3]; rfl))⟩
theorem S3.leave {g : Nat} (h : S3 w5 wr gd d6 (some ⟨g, 0, none⟩) mm V i a n Q p) (hm : 0 < mm) (v0 v1 v2 v3 v4 : Value) :
    Rm wr g 34 (mm * 5) ∧ S2 w5 (((((wr.setCell ⟨g, i * 5, none⟩ v0).setCell ⟨g, i * 5 + 1, none⟩ v1).setCell ⟨g, i * 5 + 2, none⟩ v2).setCell ⟨g, i * 5 + 3, none⟩ v3).setCell ⟨g, i * 5 + 4, none⟩ v4) gd d6 (some ⟨g, 0, none⟩) mm V (i + 1) := by
  obtain ⟨g', cur, e, hB, hg, hs, hc⟩ := h.sch hm
  injection e with e
  injection e with e
  subst e
  have K : Kept (fun k => k = g) wr (((((wr.setCell ⟨g, i * 5, none⟩ v0).setCell ⟨g, i * 5 + 1, none⟩ v1).setCell ⟨g, i * 5 + 2, none⟩ v2).setCell ⟨g, i * 5 + 3, none⟩ v3).setCell ⟨g, i * 5 + 4, none⟩ v4) := (((((Kept.refl (fun k => k = g) wr).setCell _ _ (.inl rfl)).setCell _ _ (.inl rfl)).setCell _ _ (.inl rfl)).setCell _ _ (.inl rfl)).setCell _ _ (.inl rfl)
  refine ⟨⟨cur, hg, hs⟩, h.bel.trans (K.below h.bel.size (fun k hk => by rw [hk]; exact hB)), h.box.kept K (off_blk hg (by decide : 34 ≠ 25) _ _ h.box), fun _ => ⟨g, _, rfl, hB, ((((hg.set (i * 5) v0).set (i * 5 + 1) v1).set (i * 5 + 2) v2).set (i * 5 + 3) v3).set (i * 5 + 4) v4, by simpa using hs, fun k hk hik => ?_⟩, fun j hj hij => ?_, h.djj, h.len⟩
  · rw [Array.getElem?_setIfInBounds_ne (by omega), Array.getElem?_setIfInBounds_ne (by omega), Array.getElem?_setIfInBounds_ne (by omega), Array.getElem?_setIfInBounds_ne (by omega), Array.getElem?_setIfInBounds_ne (by omega)]
    exact hc k hk (by omega)
  · obtain ⟨a', n', c', Q', e, hc', hx⟩ := h.rls j hj (by omega)
    exact ⟨a', n', c', Q', e, hc', hx.off K (off_blk hg (by decide)) (fun g2 cur2 _ hb e3 => hg.ne hb (by decide) e3.symm)⟩
end
/-- Levels that are written over. -/
structure S1 (w5 wr : World) (gd : Nat) (d6 : Array Value) (eL : Option Addr) (nn : Nat) (vS : Value) (SS : List Sc) (V : List Value) : Prop where
  bel : Below w5.heap.size w5 wr
  box : Blk wr gd 25 d6
  lev : 0 < nn → ∃ g, eL = some ⟨g, 0, none⟩ ∧ w5.heap.size ≤ g ∧ Rm wr g 31 (nn * 10)
  sc : ScW w5.heap.size wr vS SS V
theorem S1.wipe {w5 wr : World} {gd g nn : Nat} {d6 : Array Value} {vS : Value} {SS : List Sc} {V : List Value} (h : S1 w5 wr gd d6 (some ⟨g, 0, none⟩) nn vS SS V) (hn : 0 < nn) (i : Nat) (v : Value) : S1 w5 (wr.setCell ⟨g, i, none⟩ v) gd d6 (some ⟨g, 0, none⟩) nn vS SS V := by
  obtain ⟨g', e, hB, cur, hg, hs⟩ := h.lev hn
  injection e with e
  injection e with e
  subst e
  have K : Kept (fun k => k = g) wr (wr.setCell ⟨g, i, none⟩ v) := (Kept.refl (fun k => k = g) wr).setCell _ _ (.inl rfl)
  exact ⟨h.bel.trans (K.below h.bel.size (fun k hk => by rw [hk]; exact hB)), h.box.kept K (off_blk hg (by decide : 31 ≠ 25) _ _ h.box), fun _ => ⟨g, rfl, hB, Rm.set ⟨cur, hg, hs⟩ i v⟩, h.sc.off K (off_blk hg (by decide)) (off_blk hg (by decide)) (off_blk hg (by decide))⟩
theorem S1.next {w5 wr : World} {gd nn : Nat} {d6 : Array Value} {eL eS : Option Addr} {mm cS : Nat} {SS : List Sc} {V : List Value} (h : S1 w5 wr gd d6 eL nn (.slice eS mm cS) SS V) (hm : mm = SS.length) (hb : ∀ s ∈ SS, s.rules.length ≤ 100000 ∧ ∀ r ∈ s.rules, RlN 100000 r) : S2 w5 wr gd d6 eS mm V 0 := by
  subst hm
  refine ⟨h.bel, h.box, fun hm => ?_, fun k hk _ => ?_, h.sc.dj, h.sc.len⟩
  · obtain ⟨a, c, e, hc, hrow⟩ := owns_read h.sc.own
    injection e with e1 _ e3
    subst e1 e3
    obtain ⟨g, cur, e, hB, hg, hs, hcs⟩ := hrow hm
    refine ⟨g, cur, e, hB, hg, by rw [hs]; exact Nat.mul_le_mul_right 5 hc, fun k hk _ => ?_⟩
    have hk' : k < SS.length := by rw [← h.sc.len]; exact hk
    have h1 := scCs_at SS V k 4 hk' hk (by decide)
    rw [← hg.cell]
    exact hcs _ _ h1
  · have hk' : k < SS.length := by rw [← h.sc.len]; exact hk
    obtain ⟨l1, l2⟩ := hb SS[k] (List.getElem_mem hk')
    obtain ⟨a, c, Q, e, hc, hx⟩ := (h.sc.rls k hk' hk).room l1 l2
    exact ⟨a, _, c, Q, e, hc, hx⟩
end Go.Proofs.Ytikofndmfbeliaa
