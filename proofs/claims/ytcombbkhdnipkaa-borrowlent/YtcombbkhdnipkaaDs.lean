/-
  Demands that are read; rows of numbers that are made; a 'make' in a region that draws. No condition.
-/
import Derived.Test.YtcombbkhdnipkaaBas
import Derived.Test.YtcombbkhdnipkaaWalkF
import Derived.Test.YtcombbkhdnipkaaOrQ
import Derived.StillTailTactics
namespace Go.Proofs.Ytcombbkhdnipkaa
open Go.RowKit

theorem Own.other {w : World} {b b' n : Nat} {f : Nat → Int} (h : Own w b n f) (hb : b' ≠ b) (i : Nat) (v : Value) : Own (w.setCell ⟨b', i, none⟩ v) b n f := by
  refine ⟨by simpa using h.1, fun k hk => ⟨?_, by simpa using (h.2 k hk).2⟩⟩
  rw [World.cell?_setCell_other]
  · exact (h.2 k hk).1
  · intro e; exact hb (Addr.mk.inj e).1
/-- A slice that was made: zeros. -/
theorem Own.made {w : World} {base n g : Nat} (h : w.ownsRow base 3 1 (.slice (some ⟨g, 0, none⟩) n n) n (madeCells (Value.cells (.int .i64 0)) (n * 1)).toList) : Own w g n (fun _ => 0) := by
  refine ⟨(h.lt g rfl).2, fun k hk => ⟨?_, h.frozenAt k⟩⟩
  rw [h.cellAt k (by omega)]
  simp [Value.cells, toList_madeCells_one, hk]

/-- The first k are done. -/
def upto (f : Nat → Int) (k : Nat) : Nat → Int := fun j => if j < k then f j else 0
theorem upto_succ (f : Nat → Int) (k : Nat) : upd (upto f k) k (f k) = upto f (k + 1) := by
  funext j
  unfold upd upto
  by_cases c : j = k
  · subst c; simp
  · rw [if_neg c]
    by_cases d : j < k
    · rw [if_pos d, if_pos (by omega)]
    · rw [if_neg d, if_neg (by omega)]

theorem Own.kept {S : Nat → Prop} {w w' : World} {b n : Nat} {f : Nat → Int} (h : Own w b n f) (k : Kept S w w') (hS : ¬ S b) : Own w' b n f := by
  have e := k.block b h.1 hS
  refine ⟨Nat.lt_of_lt_of_le h.1 k.size, fun j hj => ?_⟩
  obtain ⟨h1, h2⟩ := h.2 j hj
  exact ⟨by rw [← h1]; simp only [World.cell?, e], by rw [← h2]; simp only [World.frozen?, e]⟩
theorem region_tail {id : Nat} {Q : Exit → Act → World → Prop} {a : Act} {w : World} {l : List Oper} (n : Nat) (hB : Region.lexTailB .any l.toArray n = true)
    (h : wpStill Try.prog l.toArray w.drew (fun a' => wpList Try.prog l.toArray Q (l.drop n) a' w.drew) (l.take n) a) : (Code.region id l.toArray true).wp Try.prog Q a w :=
  wp_region_still_tail n (by kernel_rfl) hB h

/-- A slice is made as a step of a region that draws. -/
theorem step_make {P : Program} {ops : Array Oper} {o : Oper} {a : Act} {w : World} {K : Act → World → Prop} {Q : Exit → Act → World → Prop} {E : Prop}
    (hg : o.guard = none) (l c : Operand) (t : TypeId) (hop : o.op = Op.makeSlice t l c)
    (base : Nat) (e : TypeId) (i : TypeInfo) (z : Value) (size : Nat) (h1 : P.underlying t = some (.slice e)) (h2 : P.info? e = some i) (h3 : i.zero = some z) (h4 : i.size = size)
    (kl kc : IntKind) (L C : Int) (n : Nat) (hl : a.eval l = .int kl L) (hc : a.eval c = .int kc C) (hL : L = (n : Int)) (hC : C = (n : Int)) (b2 : i.bytes * n ≤ 281474976710656) (b3 : n ≤ maxLen) (b4 : base ≤ w.heap.size)
    (hK : ∀ w', w'.ownsRow base e size (.slice (some ⟨w.heap.size, 0, none⟩) n n) n (madeCells z.cells (n * size)).toList → w.grownBy w' none → K (a.put o.dst (.slice (some ⟨w.heap.size, 0, none⟩) n n)) w') :
    if Region.wanted o (yielded ops a.tmps) = true then Oper.wp P o a w K Q else E := by
  have hw : Region.wanted o (yielded ops a.tmps) = true := by simp [Region.wanted, hg]
  rw [if_pos hw]
  obtain ⟨w', hrun, r1, r2⟩ := run_make_full (P := P) w base t e i z size h1 h2 h3 h4 kl kc n b2 b3 b4
  subst hL
  subst hC
  unfold Oper.wp
  simp [execOp, hop, hl, hc, hrun, Result.andThen]
  exact hK w' r1 r2

/-- A demand. -/
structure Dm where
  hig : Int
  smo : Int
/-- Demands that are read. -/
def DmR (w : World) (a : Option Addr) (n : Nat) (d : Nat → Dm) : Prop := 0 < n → ∃ b off, a = some ⟨b, off, none⟩ ∧ b < w.heap.size ∧ ∀ k, k < n → w.cell? ⟨b, off + k * 2, none⟩ = some (.int .i64 (d k).hig) ∧ w.cell? ⟨b, off + k * 2 + 1, none⟩ = some (.int .i64 (d k).smo)
theorem DmR.carry {w w' : World} {a : Option Addr} {n : Nat} {d : Nat → Dm} (h : DmR w a n d) (b : Below w.heap.size w w') : DmR w' a n d := fun hn => by
  obtain ⟨q, off, rfl, hg, hc⟩ := h hn
  exact ⟨q, off, rfl, Nat.lt_of_lt_of_le hg b.size, fun k hk => ⟨(b.cell (p := ⟨q, off + k * 2, none⟩) hg).trans (hc k hk).1, (b.cell (p := ⟨q, off + k * 2 + 1, none⟩) hg).trans (hc k hk).2⟩⟩
def mns (g : Nat → Bd) : Nat → Int := fun k => (g k).mn
def mxs (g : Nat → Bd) : Nat → Int := fun k => (g k).mx
def noms (g : Nat → Bd) : Nat → Int := fun k => (g k).nom
def sms (d : Nat → Dm) : Nat → Int := fun k => (d k).smo
end Go.Proofs.Ytcombbkhdnipkaa
