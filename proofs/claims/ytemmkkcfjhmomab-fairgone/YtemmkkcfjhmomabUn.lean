/-
  What each call answers, whichever way it goes, told by one function. Conditions: the lanes and the hand lie in memory, and are few.
-/
import Derived.Test.YtemmkkcfjhmomabFk
import Derived.Test.YtemmkkcfjhmomabFo
import Derived.Test.YtemmkkcfjhmomabJn
import Derived.Test.YtemmkkcfjhmomabFh
import Derived.Test.YtemmkkcfjhmomabFn
import Derived.Test.YtemmkkcfjhmomabFq
import Derived.Test.YtemmkkcfjhmomabFg
import Derived.Test.YtemmkkcfjhmomabTy
import Derived.Test.YtemmkkcfjhmomabDy
import Derived.Test.YtemmkkcfjhmomabDn
import Derived.Test.YtemmkkcfjhmomabFs
namespace Go.Proofs.Ytemmkkcfjhmomab
open Go.RowKit

/-- A fair. -/
structure Fa where
  r : Int
  g : Int
  n : Int
  o : Int
  F : List Ln
def FaW (w : World) (x : Fa) (v : Value) : Prop := FaV w x.r x.g x.n x.o x.F v
def xZ : Fa := ⟨0, 0, 0, 0, []⟩
theorem xZ_w (w : World) : FaW w xZ faZ := ⟨none, 0, rfl, LsR.nil w⟩
theorem FaS.w {S : Nat → Prop} {w : World} {x : Fa} {v : Value} (h : FaS S w x.r x.g x.n x.o x.F v) : FaW w x v := h.read (Kept.refl _ _)
theorem FaW.carry {w w' : World} {x : Fa} {v : Value} (h : FaW w x v) (b : Below w.heap.size w w') : FaW w' x v := FaV.carry h b
/-- New. -/
def nwX (o g n : Int) : Fa := if Good o g n then ⟨0, g, n, o, nwF o.toNat⟩ else xZ
def nwE (o g n : Int) : Int := if Good o g n then 0 else 1
theorem new_any (o g n : Int) (w : World) : Calls Try.prog 12 #[.int .i64 o, .int .i64 g, .int .i64 n] w fun e w' => (∃ v, e = .returned (.tuple #[v, .int .i64 (nwE o g n)]) ∧ FaW w' (nwX o g n) v) ∧ Below w.heap.size w w' := by
  unfold nwX nwE
  by_cases h : Good o g n
  · rw [if_pos h, if_pos h]
    obtain ⟨m, rfl⟩ : ∃ m : Nat, o = m := ⟨o.toNat, by have := h.1; omega⟩
    refine (new_yes m g n w h).mono ?_
    rintro e w' ⟨⟨v, rfl, hv⟩, b⟩
    exact ⟨⟨v, rfl, by rw [Int.toNat_natCast]; exact hv.read⟩, b⟩
  · rw [if_neg h, if_neg h]
    refine (new_no o g n w h).mono ?_
    rintro e w' ⟨rfl, b⟩
    exact ⟨⟨_, rfl, xZ_w w'⟩, b⟩
/-- Shape. -/
def shX (x : Fa) (o g n : Int) : Fa := if Good o g n then ⟨x.r, g, n, o, trm (shF x.F o.toNat) o⟩ else xZ
section
variable (x : Fa) (a : Option Addr) (c : Nat) (w : World) (h : LsR w a c x.F) (hf : Few x.F)
include h hf
end
/-- Join. -/
def jnX (x : Fa) (k : Int) (t : Tk) : Fa := if k < 0 then xZ else if x.n ≤ ((gl x.F k.toNat).L.length : Int) then xZ else ⟨x.r, x.g, x.n, x.o, jnF x.F k.toNat x.r t⟩
def jnK (x : Fa) (k : Int) : Int := if k < 0 then 0 else if x.n ≤ ((gl x.F k.toNat).L.length : Int) then 0 else k
def jnE (x : Fa) (k : Int) : Int := if k < 0 then 6 else if x.n ≤ ((gl x.F k.toNat).L.length : Int) then 7 else 0
section
variable (x : Fa) (a : Option Addr) (c : Nat) (ah : Option Addr) (nh ch : Nat) (H0 : Nat → Int) (t : Tk) (w : World) (h : LsR w a c x.F) (hf : Few x.F) (hh : HnR w ah nh H0) (hnh : nh ≤ 1000)
include h hf hh hnh
theorem join_any : Calls Try.prog 13 #[.agg #[.int .u64 x.r, .int .i64 x.g, .int .i64 x.n, .int .i64 x.o, .slice a x.F.length c], .slice ah nh ch, .agg #[.int .i64 t.id, .int .i64 t.wid, .int .i64 t.sts, .int .i64 t.sin, .int .i64 t.unt]] w fun e w' => (∃ v, e = .returned (.tuple #[v, .int .i64 (jnK x (chF x.F x.o H0 nh)), .int .i64 (jnE x (chF x.F x.o H0 nh))]) ∧ FaW w' (jnX x (chF x.F x.o H0 nh) t) v) ∧ Below w.heap.size w w' := by
  rcases (chF_is x.F x.o H0 nh).rng with hk | hk
  · rw [hk]
    refine (fjoin_none x.r x.g x.n x.o a c x.F ah nh ch H0 t w h hf hh hnh hk).mono ?_
    rintro e w' ⟨rfl, b⟩
    exact ⟨⟨_, rfl, xZ_w w'⟩, b⟩
  · obtain ⟨k, hk2⟩ : ∃ k : Nat, chF x.F x.o H0 nh = k := ⟨(chF x.F x.o H0 nh).toNat, by have := hk.1; omega⟩
    have hkn : k < x.F.length := by have := hk.2.2; omega
    have hneg : ¬ (k : Int) < 0 := by omega
    rw [hk2]
    simp only [jnX, jnK, jnE, if_neg hneg, Int.toNat_natCast]
    by_cases hfull : x.n ≤ ((gl x.F k).L.length : Int)
    · simp only [if_pos hfull]
      refine (fjoin_full x.r x.g x.n x.o a c x.F ah nh ch H0 t w h hf hh hnh k hkn hk2 hfull).mono ?_
      rintro e w' ⟨rfl, b⟩
      exact ⟨⟨_, rfl, xZ_w w'⟩, b⟩
    · simp only [if_neg hfull]
      refine (fjoin_yes x.r x.g x.n x.o a c x.F ah nh ch H0 t w h hf hh hnh k hkn hk2 (by omega)).mono ?_
      rintro e w' ⟨⟨v, rfl, hv⟩, b⟩
      exact ⟨⟨v, rfl, FaS.w hv⟩, b⟩
end
/-- Take. -/
def tkX (x : Fa) : Fa := if nxt x.F x.g < 0 then x else ⟨max x.r (fN x.g (gl x.F (nxt x.F x.g).toNat)), x.g, x.n, x.o, trm (tkF x.F (nxt x.F x.g).toNat x.g) x.o⟩
def tkT (x : Fa) : Tk := if nxt x.F x.g < 0 then tkZ else gt (gl x.F (nxt x.F x.g).toNat).L 0
def tkO (x : Fa) : Bool := decide (0 ≤ nxt x.F x.g)
/-- Drop. -/
def dpK (F : List Ln) (id : Int) : Nat := F.findIdx (fun l => drB id l.L)
def dpX (x : Fa) (id : Int) : Fa := if dpK x.F id < x.F.length then ⟨x.r, x.g, x.n, x.o, trm (x.F.set (dpK x.F id) ⟨(gl x.F (dpK x.F id)).s, drL id (gl x.F (dpK x.F id)).L⟩) x.o⟩ else x
def dpT (x : Fa) (id : Int) : Tk := if dpK x.F id < x.F.length then drT id (gl x.F (dpK x.F id)).L else tkZ
def dpO (x : Fa) (id : Int) : Bool := decide (dpK x.F id < x.F.length)
theorem dpK_no {F : List Ln} {id : Int} {j : Nat} (h : j < dpK F id) (hj : j < F.length) : drB id (gl F j).L = false := by
  have h2 := List.not_of_lt_findIdx (p := fun l : Ln => drB id l.L) h
  have e : F[j]? = some (gl F j) := gl_get hj
  rw [List.getElem?_eq_getElem hj] at e
  injection e with e
  simpa [e] using h2
theorem dpK_yes {F : List Ln} {id : Int} (h : dpK F id < F.length) : drB id (gl F (dpK F id)).L = true := by
  have h2 := List.findIdx_getElem (p := fun l : Ln => drB id l.L) (w := h)
  have e : F[dpK F id]? = some (gl F (dpK F id)) := gl_get h
  rw [List.getElem?_eq_getElem h] at e
  injection e with e
  rw [← e]
  exact h2
section
variable (x : Fa) (a : Option Addr) (c : Nat) (w : World) (h : LsR w a c x.F) (hf : Few x.F)
include h hf
theorem take_any : Calls Try.prog 10 #[.agg #[.int .u64 x.r, .int .i64 x.g, .int .i64 x.n, .int .i64 x.o, .slice a x.F.length c]] w fun e w' => (∃ v, e = .returned (.tuple #[v, .agg #[.int .i64 (tkT x).id, .int .i64 (tkT x).wid, .int .i64 (tkT x).sts, .int .i64 (tkT x).sin, .int .i64 (tkT x).unt], .bool (tkO x)]) ∧ FaW w' (tkX x) v) ∧ Below w.heap.size w w' := by
  unfold tkX tkT tkO
  rcases (nxt_is x.F x.g).rng with hk | ⟨k, hk, -, -, -⟩
  · rw [hk, if_pos (by decide), if_pos (by decide)]
    refine (ftake_none x.r x.g x.n x.o a c x.F w h hf hk).mono ?_
    rintro e w' ⟨⟨v, rfl, hv⟩, b⟩
    exact ⟨⟨v, rfl, FaS.w hv⟩, b⟩
  · rw [hk, if_neg (by omega), if_neg (by omega), Int.toNat_natCast, decide_eq_true (by omega)]
    refine (ftake_yes x.r x.g x.n x.o a c x.F w h hf k hk).mono ?_
    rintro e w' ⟨⟨v, rfl, hv⟩, b⟩
    exact ⟨⟨v, rfl, FaS.w hv⟩, b⟩
theorem drop_any (id : Int) : Calls Try.prog 7 #[.agg #[.int .u64 x.r, .int .i64 x.g, .int .i64 x.n, .int .i64 x.o, .slice a x.F.length c], .int .i64 id] w fun e w' => (∃ v, e = .returned (.tuple #[v, .agg #[.int .i64 (dpT x id).id, .int .i64 (dpT x id).wid, .int .i64 (dpT x id).sts, .int .i64 (dpT x id).sin, .int .i64 (dpT x id).unt], .bool (dpO x id)]) ∧ FaW w' (dpX x id) v) ∧ Below w.heap.size w w' := by
  unfold dpX dpT dpO
  by_cases hk : dpK x.F id < x.F.length
  · rw [if_pos hk, if_pos hk, decide_eq_true hk]
    refine (fdrop_yes x.r x.g x.n x.o a c x.F id w h hf (dpK x.F id) hk (fun j hj => dpK_no hj (by omega)) (dpK_yes hk)).mono ?_
    rintro e w' ⟨⟨v, rfl, hv⟩, b⟩
    exact ⟨⟨v, rfl, FaS.w hv⟩, b⟩
  · rw [if_neg hk, if_neg hk, decide_eq_false hk]
    refine (fdrop_none x.r x.g x.n x.o a c x.F id w h hf (fun j hj => dpK_no (by omega) hj)).mono ?_
    rintro e w' ⟨⟨v, rfl, hv⟩, b⟩
    exact ⟨⟨v, rfl, FaS.w hv⟩, b⟩
end
/-- Fewer still. -/
structure Fw100 (F : List Ln) : Prop where
  len : F.length ≤ 100
  each : ∀ l ∈ F, Word l.s ∧ l.L.length ≤ 110
theorem Fw100.few {F : List Ln} (h : Fw100 F) : Few F := ⟨by have := h.len; omega, fun l hl => ⟨(h.each l hl).1, by have := (h.each l hl).2; omega⟩⟩
theorem xZ_few : Few xZ.F := ⟨by decide, fun _ h => by cases h⟩
theorem nwX_few (o g n : Int) : Few (nwX o g n).F := by
  unfold nwX
  split
  · rename_i h
    exact ⟨by show (nwF o.toNat).length ≤ 200; rw [nwF_len]; have := h.1; omega, fun l hl => by
      rw [(List.mem_replicate.1 hl).2]; exact ⟨⟨by decide, by decide⟩, by decide⟩⟩
  · exact xZ_few
theorem shX_few {x : Fa} (h : Few x.F) (o g n : Int) : Few (shX x o g n).F := by
  unfold shX
  split
  · rename_i hg
    exact (h.sh (by have := hg.1; omega)).trm o
  · exact xZ_few
theorem jnX_few {x : Fa} (h : Few x.F) (h2 : ∀ k, (gl x.F k).L.length ≤ 999) (hr : Word x.r) (k : Int) (t : Tk) : Few (jnX x k t).F := by
  unfold jnX
  split
  · exact xZ_few
  · split
    · exact xZ_few
    · exact h.set ⟨jnS_word (h.at _).1 hr, by have := h2 k.toNat; simp; omega⟩
theorem tkX_few {x : Fa} (h : Few x.F) : Few (tkX x).F := by
  unfold tkX
  split
  · exact h
  · exact (h.set ⟨tkS_word (h.at _).1, by have := (h.at (nxt x.F x.g).toNat).2; simp; omega⟩).trm _
theorem dpX_few {x : Fa} (h : Few x.F) (id : Int) : Few (dpX x id).F := by
  unfold dpX
  split
  · have h1 := (h.at (dpK x.F id)).2
    have h2 := drL_len id (gl x.F (dpK x.F id)).L
    exact (Few.set h (k := dpK x.F id) (l := ⟨(gl x.F (dpK x.F id)).s, drL id (gl x.F (dpK x.F id)).L⟩) ⟨(h.at (dpK x.F id)).1, Nat.le_trans h2 h1⟩).trm _
  · exact h
end Go.Proofs.Ytemmkkcfjhmomab
