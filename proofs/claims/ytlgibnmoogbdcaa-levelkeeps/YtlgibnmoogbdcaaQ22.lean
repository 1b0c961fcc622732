/-
  What each call answers, whichever way it goes, told by one function. Conditions: the lanes and the hand lie in memory, and are few.
  What each call answers, told whatever becomes of blocks that were there ahead of it. Conditions: the lanes and the hand lie in memory, and are few.
  The mathematics of emptying: how many wait, and their seats, behind a take and a trim. No condition.
-/
import Derived.Test.YtlgibnmoogbdcaaQ13
import Derived.Test.YtlgibnmoogbdcaaQ14
import Derived.Test.YtlgibnmoogbdcaaQ18
import Derived.Test.YtlgibnmoogbdcaaQ21
import Derived.Test.YtlgibnmoogbdcaaQ19
import Derived.Test.YtlgibnmoogbdcaaQ15
namespace Go.Proofs.Ytlgibnmoogbdcaa
open Go.RowKit

/-- A fair. -/
structure Fa where
  r : Int
  g : Int
  n : Int
  o : Int
  F : List Ln
def FaW (w : World) (x : Fa) (v : Value) : Prop := FaV w x.r x.g x.n x.o x.F v
def xZ : Fa := ⟨0, 0, 0, 0, []⟩
theorem xZ_w (w : World) : FaW w xZ faZ := ⟨none, 0, rfl, LsR.nil w⟩
theorem FaS.w {S : Nat → Prop} {w : World} {x : Fa} {v : Value} (h : FaS S w x.r x.g x.n x.o x.F v) : FaW w x v := h.read (Kept.refl _ _)
theorem FaW.carry {w w' : World} {x : Fa} {v : Value} (h : FaW w x v) (b : Below w.heap.size w w') : FaW w' x v := FaV.carry h b
/-- New. -/
def nwX (o g n : Int) : Fa := if Good o g n then ⟨0, g, n, o, nwF o.toNat⟩ else xZ
def nwE (o g n : Int) : Int := if Good o g n then 0 else 1
theorem new_any (o g n : Int) (w : World) : Calls Try.prog 21 #[.int .i64 o, .int .i64 g, .int .i64 n] w fun e w' => (∃ v, e = .returned (.tuple #[v, .int .i64 (nwE o g n)]) ∧ FaW w' (nwX o g n) v) ∧ Below w.heap.size w w' := by
  unfold nwX nwE
  by_cases h : Good o g n
  · rw [if_pos h, if_pos h]
    obtain ⟨m, rfl⟩ : ∃ m : Nat, o = m := ⟨o.toNat, by have := h.1; omega⟩
    refine (new_yes m g n w h).mono ?_
    rintro e w' ⟨⟨v, rfl, hv⟩, b⟩
    exact ⟨⟨v, rfl, by rw [Int.toNat_natCast]; exact hv.read⟩, b⟩
  · rw [if_neg h, if_neg h]
    refine (new_no o g n w h).mono ?_
    rintro e w' ⟨rfl, b⟩
    exact ⟨⟨_, rfl, xZ_w w'⟩, b⟩
theorem rnew_any (o g n : Int) (w : World) : Calls Try.prog 22 #[.int .i64 o, .int .i64 g, .int .i64 n] w fun e w' => (∃ v, e = .returned (.tuple #[v, .int .i64 (nwE o g n)]) ∧ FaW w' (nwX o g n) v) ∧ Below w.heap.size w w' := by
  unfold nwX nwE
  by_cases h : Good o g n
  · rw [if_pos h, if_pos h]
    obtain ⟨m, rfl⟩ : ∃ m : Nat, o = m := ⟨o.toNat, by have := h.1; omega⟩
    refine (rnew_yes m g n w h).mono ?_
    rintro e w' ⟨⟨v, rfl, hv⟩, b⟩
    exact ⟨⟨v, rfl, by rw [Int.toNat_natCast]; exact hv.read⟩, b⟩
  · rw [if_neg h, if_neg h]
    refine (rnew_no o g n w h).mono ?_
    rintro e w' ⟨rfl, b⟩
    exact ⟨⟨_, rfl, xZ_w w'⟩, b⟩
/-- Shape. -/
def shX (x : Fa) (o g n : Int) : Fa := if Good o g n then ⟨x.r, g, n, o, trm (shF x.F o.toNat) o⟩ else xZ
section
variable (x : Fa) (a : Option Addr) (c : Nat) (w : World) (h : LsR w a c x.F) (hf : Few x.F)
include h hf
theorem shape_any (o g n : Int) : Calls Try.prog 57 #[.agg #[.int .u64 x.r, .int .i64 x.g, .int .i64 x.n, .int .i64 x.o, .slice a x.F.length c], .int .i64 o, .int .i64 g, .int .i64 n] w fun e w' => (∃ v, e = .returned (.tuple #[v, .int .i64 (nwE o g n)]) ∧ FaW w' (shX x o g n) v) ∧ Below w.heap.size w w' := by
  unfold shX nwE
  by_cases hg : Good o g n
  · rw [if_pos hg, if_pos hg]
    obtain ⟨m, rfl⟩ : ∃ m : Nat, o = m := ⟨o.toNat, by have := hg.1; omega⟩
    refine (shape_yes x.r x.g x.n x.o g n m a c x.F w h hf hg).mono ?_
    rintro e w' ⟨⟨v, rfl, hv⟩, b⟩
    exact ⟨⟨v, rfl, by rw [Int.toNat_natCast]; exact FaS.w hv⟩, b⟩
  · rw [if_neg hg, if_neg hg]
    refine (shape_no x.r x.g x.n x.o o g n a c x.F w hg).mono ?_
    rintro e w' ⟨rfl, b⟩
    exact ⟨⟨_, rfl, xZ_w w'⟩, b⟩
theorem rshape_any (o g n : Int) : Calls Try.prog 65 #[.agg #[.int .u64 x.r, .int .i64 x.g, .int .i64 x.n, .int .i64 x.o, .slice a x.F.length c], .int .i64 o, .int .i64 g, .int .i64 n] w fun e w' => (∃ v, e = .returned (.tuple #[v, .int .i64 (nwE o g n)]) ∧ FaW w' (shX x o g n) v) ∧ Below w.heap.size w w' := by
  unfold shX nwE
  by_cases hg : Good o g n
  · rw [if_pos hg, if_pos hg]
    obtain ⟨m, rfl⟩ : ∃ m : Nat, o = m := ⟨o.toNat, by have := hg.1; omega⟩
    refine (rshape_yes x.r x.g x.n x.o g n m a c x.F w h hf hg).mono ?_
    rintro e w' ⟨⟨v, rfl, hv⟩, b⟩
    exact ⟨⟨v, rfl, by rw [Int.toNat_natCast]; exact FaS.w hv⟩, b⟩
  · rw [if_neg hg, if_neg hg]
    refine (rshape_no x.r x.g x.n x.o o g n a c x.F w hg).mono ?_
    rintro e w' ⟨rfl, b⟩
    exact ⟨⟨_, rfl, xZ_w w'⟩, b⟩
end
/-- Join. -/
def jnX (x : Fa) (k : Int) (t : Tk) : Fa := if k < 0 then xZ else if x.n ≤ ((gl x.F k.toNat).L.length : Int) then xZ else ⟨x.r, x.g, x.n, x.o, jnF x.F k.toNat x.r t⟩
def jnK (x : Fa) (k : Int) : Int := if k < 0 then 0 else if x.n ≤ ((gl x.F k.toNat).L.length : Int) then 0 else k
def jnE (x : Fa) (k : Int) : Int := if k < 0 then 6 else if x.n ≤ ((gl x.F k.toNat).L.length : Int) then 7 else 0
section
variable (x : Fa) (a : Option Addr) (c : Nat) (ah : Option Addr) (nh ch : Nat) (H0 : Nat → Int) (t : Tk) (w : World) (h : LsR w a c x.F) (hf : Few x.F) (hh : HnR w ah nh H0) (hnh : nh ≤ 1000)
include h hf hh hnh
theorem join_any : Calls Try.prog 71 #[.agg #[.int .u64 x.r, .int .i64 x.g, .int .i64 x.n, .int .i64 x.o, .slice a x.F.length c], .slice ah nh ch, .agg #[.int .i64 t.id, .int .i64 t.wid, .int .i64 t.sts, .int .i64 t.sin, .int .i64 t.unt]] w fun e w' => (∃ v, e = .returned (.tuple #[v, .int .i64 (jnK x (chF x.F x.o H0 nh)), .int .i64 (jnE x (chF x.F x.o H0 nh))]) ∧ FaW w' (jnX x (chF x.F x.o H0 nh) t) v) ∧ Below w.heap.size w w' := by
  rcases (chF_is x.F x.o H0 nh).rng with hk | hk
  · rw [hk]
    refine (fjoin_none x.r x.g x.n x.o a c x.F ah nh ch H0 t w h hf hh hnh hk).mono ?_
    rintro e w' ⟨rfl, b⟩
    exact ⟨⟨_, rfl, xZ_w w'⟩, b⟩
  · obtain ⟨k, hk2⟩ : ∃ k : Nat, chF x.F x.o H0 nh = k := ⟨(chF x.F x.o H0 nh).toNat, by have := hk.1; omega⟩
    have hkn : k < x.F.length := by have := hk.2.2; omega
    have hneg : ¬ (k : Int) < 0 := by omega
    rw [hk2]
    simp only [jnX, jnK, jnE, if_neg hneg, Int.toNat_natCast]
    by_cases hfull : x.n ≤ ((gl x.F k).L.length : Int)
    · simp only [if_pos hfull]
      refine (fjoin_full x.r x.g x.n x.o a c x.F ah nh ch H0 t w h hf hh hnh k hkn hk2 hfull).mono ?_
      rintro e w' ⟨rfl, b⟩
      exact ⟨⟨_, rfl, xZ_w w'⟩, b⟩
    · simp only [if_neg hfull]
      refine (fjoin_yes x.r x.g x.n x.o a c x.F ah nh ch H0 t w h hf hh hnh k hkn hk2 (by omega)).mono ?_
      rintro e w' ⟨⟨v, rfl, hv⟩, b⟩
      exact ⟨⟨v, rfl, FaS.w hv⟩, b⟩
theorem rjoin_any : Calls Try.prog 59 #[.agg #[.int .u64 x.r, .int .i64 x.g, .int .i64 x.n, .int .i64 x.o, .slice a x.F.length c], .slice ah nh ch, .agg #[.int .i64 t.id, .int .i64 t.wid, .int .i64 t.sts, .int .i64 t.sin, .int .i64 t.unt]] w fun e w' => (∃ v, e = .returned (.tuple #[v, .int .i64 (jnK x (chF x.F x.o H0 nh)), .int .i64 (jnE x (chF x.F x.o H0 nh))]) ∧ FaW w' (jnX x (chF x.F x.o H0 nh) t) v) ∧ Below w.heap.size w w' := by
  rcases (chF_is x.F x.o H0 nh).rng with hk | hk
  · rw [hk]
    refine (rfjoin_none x.r x.g x.n x.o a c x.F ah nh ch H0 t w h hf hh hnh hk).mono ?_
    rintro e w' ⟨rfl, b⟩
    exact ⟨⟨_, rfl, xZ_w w'⟩, b⟩
  · obtain ⟨k, hk2⟩ : ∃ k : Nat, chF x.F x.o H0 nh = k := ⟨(chF x.F x.o H0 nh).toNat, by have := hk.1; omega⟩
    have hkn : k < x.F.length := by have := hk.2.2; omega
    have hneg : ¬ (k : Int) < 0 := by omega
    rw [hk2]
    simp only [jnX, jnK, jnE, if_neg hneg, Int.toNat_natCast]
    by_cases hfull : x.n ≤ ((gl x.F k).L.length : Int)
    · simp only [if_pos hfull]
      refine (rfjoin_full x.r x.g x.n x.o a c x.F ah nh ch H0 t w h hf hh hnh k hkn hk2 hfull).mono ?_
      rintro e w' ⟨rfl, b⟩
      exact ⟨⟨_, rfl, xZ_w w'⟩, b⟩
    · simp only [if_neg hfull]
      refine (rfjoin_yes x.r x.g x.n x.o a c x.F ah nh ch H0 t w h hf hh hnh k hkn hk2 (by omega)).mono ?_
      rintro e w' ⟨⟨v, rfl, hv⟩, b⟩
      exact ⟨⟨v, rfl, FaS.w hv⟩, b⟩
end
/-- Take. -/
def tkX (x : Fa) : Fa := if nxt x.F x.g < 0 then x else ⟨max x.r (fN x.g (gl x.F (nxt x.F x.g).toNat)), x.g, x.n, x.o, trm (tkF x.F (nxt x.F x.g).toNat x.g) x.o⟩
def tkT (x : Fa) : Tk := if nxt x.F x.g < 0 then tkZ else gt (gl x.F (nxt x.F x.g).toNat).L 0
def tkO (x : Fa) : Bool := decide (0 ≤ nxt x.F x.g)
/-- Drop. -/
def dpK (F : List Ln) (id : Int) : Nat := F.findIdx (fun l => drB id l.L)
def dpX (x : Fa) (id : Int) : Fa := if dpK x.F id < x.F.length then ⟨x.r, x.g, x.n, x.o, trm (x.F.set (dpK x.F id) ⟨(gl x.F (dpK x.F id)).s, drL id (gl x.F (dpK x.F id)).L⟩) x.o⟩ else x
def dpT (x : Fa) (id : Int) : Tk := if dpK x.F id < x.F.length then drT id (gl x.F (dpK x.F id)).L else tkZ
def dpO (x : Fa) (id : Int) : Bool := decide (dpK x.F id < x.F.length)
theorem dpK_no {F : List Ln} {id : Int} {j : Nat} (h : j < dpK F id) (hj : j < F.length) : drB id (gl F j).L = false := by
  have h2 := List.not_of_lt_findIdx (p := fun l : Ln => drB id l.L) h
  have e : F[j]? = some (gl F j) := gl_get hj
  rw [List.getElem?_eq_getElem hj] at e
  injection e with e
  simpa [e] using h2
theorem dpK_yes {F : List Ln} {id : Int} (h : dpK F id < F.length) : drB id (gl F (dpK F id)).L = true := by
  have h2 := List.findIdx_getElem (p := fun l : Ln => drB id l.L) (w := h)
  have e : F[dpK F id]? = some (gl F (dpK F id)) := gl_get h
  rw [List.getElem?_eq_getElem h] at e
  injection e with e
  rw [← e]
  exact h2
section
variable (x : Fa) (a : Option Addr) (c : Nat) (w : World) (h : LsR w a c x.F) (hf : Few x.F)
include h hf
theorem take_any : Calls Try.prog 41 #[.agg #[.int .u64 x.r, .int .i64 x.g, .int .i64 x.n, .int .i64 x.o, .slice a x.F.length c]] w fun e w' => (∃ v, e = .returned (.tuple #[v, .agg #[.int .i64 (tkT x).id, .int .i64 (tkT x).wid, .int .i64 (tkT x).sts, .int .i64 (tkT x).sin, .int .i64 (tkT x).unt], .bool (tkO x)]) ∧ FaW w' (tkX x) v) ∧ Below w.heap.size w w' := by
  unfold tkX tkT tkO
  rcases (nxt_is x.F x.g).rng with hk | ⟨k, hk, -, -, -⟩
  · rw [hk, if_pos (by decide), if_pos (by decide)]
    refine (ftake_none x.r x.g x.n x.o a c x.F w h hf hk).mono ?_
    rintro e w' ⟨⟨v, rfl, hv⟩, b⟩
    exact ⟨⟨v, rfl, FaS.w hv⟩, b⟩
  · rw [hk, if_neg (by omega), if_neg (by omega), Int.toNat_natCast, decide_eq_true (by omega)]
    refine (ftake_yes x.r x.g x.n x.o a c x.F w h hf k hk).mono ?_
    rintro e w' ⟨⟨v, rfl, hv⟩, b⟩
    exact ⟨⟨v, rfl, FaS.w hv⟩, b⟩
theorem rtake_any : Calls Try.prog 63 #[.agg #[.int .u64 x.r, .int .i64 x.g, .int .i64 x.n, .int .i64 x.o, .slice a x.F.length c]] w fun e w' => (∃ v, e = .returned (.tuple #[v, .agg #[.int .i64 (tkT x).id, .int .i64 (tkT x).wid, .int .i64 (tkT x).sts, .int .i64 (tkT x).sin, .int .i64 (tkT x).unt], .bool (tkO x)]) ∧ FaW w' (tkX x) v) ∧ Below w.heap.size w w' := by
  unfold tkX tkT tkO
  rcases (nxt_is x.F x.g).rng with hk | ⟨k, hk, -, -, -⟩
  · rw [hk, if_pos (by decide), if_pos (by decide)]
    refine (rftake_none x.r x.g x.n x.o a c x.F w h hf hk).mono ?_
    rintro e w' ⟨⟨v, rfl, hv⟩, b⟩
    exact ⟨⟨v, rfl, a, c, hv, h.carry b⟩, b⟩
  · rw [hk, if_neg (by omega), if_neg (by omega), Int.toNat_natCast, decide_eq_true (by omega)]
    refine (rftake_yes x.r x.g x.n x.o a c x.F w h hf k hk).mono ?_
    rintro e w' ⟨⟨v, rfl, hv⟩, b⟩
    exact ⟨⟨v, rfl, FaS.w hv⟩, b⟩
theorem drop_any (id : Int) : Calls Try.prog 48 #[.agg #[.int .u64 x.r, .int .i64 x.g, .int .i64 x.n, .int .i64 x.o, .slice a x.F.length c], .int .i64 id] w fun e w' => (∃ v, e = .returned (.tuple #[v, .agg #[.int .i64 (dpT x id).id, .int .i64 (dpT x id).wid, .int .i64 (dpT x id).sts, .int .i64 (dpT x id).sin, .int .i64 (dpT x id).unt], .bool (dpO x id)]) ∧ FaW w' (dpX x id) v) ∧ Below w.heap.size w w' := by
  unfold dpX dpT dpO
  by_cases hk : dpK x.F id < x.F.length
  · rw [if_pos hk, if_pos hk, decide_eq_true hk]
    refine (fdrop_yes x.r x.g x.n x.o a c x.F id w h hf (dpK x.F id) hk (fun j hj => dpK_no hj (by omega)) (dpK_yes hk)).mono ?_
    rintro e w' ⟨⟨v, rfl, hv⟩, b⟩
    exact ⟨⟨v, rfl, FaS.w hv⟩, b⟩
  · rw [if_neg hk, if_neg hk, decide_eq_false hk]
    refine (fdrop_none x.r x.g x.n x.o a c x.F id w h hf (fun j hj => dpK_no (by omega) hj)).mono ?_
    rintro e w' ⟨⟨v, rfl, hv⟩, b⟩
    exact ⟨⟨v, rfl, FaS.w hv⟩, b⟩
theorem rdrop_any (id : Int) : Calls Try.prog 64 #[.agg #[.int .u64 x.r, .int .i64 x.g, .int .i64 x.n, .int .i64 x.o, .slice a x.F.length c], .int .i64 id] w fun e w' => (∃ v, e = .returned (.tuple #[v, .agg #[.int .i64 (dpT x id).id, .int .i64 (dpT x id).wid, .int .i64 (dpT x id).sts, .int .i64 (dpT x id).sin, .int .i64 (dpT x id).unt], .bool (dpO x id)]) ∧ FaW w' (dpX x id) v) ∧ Below w.heap.size w w' := by
  unfold dpX dpT dpO
  by_cases hk : dpK x.F id < x.F.length
  · rw [if_pos hk, if_pos hk, decide_eq_true hk]
    refine (rfdrop_yes x.r x.g x.n x.o a c x.F id w h hf (dpK x.F id) hk (fun j hj => dpK_no hj (by omega)) (dpK_yes hk)).mono ?_
    rintro e w' ⟨⟨v, rfl, hv⟩, b⟩
    exact ⟨⟨v, rfl, FaS.w hv⟩, b⟩
  · rw [if_neg hk, if_neg hk, decide_eq_false hk]
    refine (rfdrop_none x.r x.g x.n x.o a c x.F id w h hf (fun j hj => dpK_no (by omega) hj)).mono ?_
    rintro e w' ⟨⟨v, rfl, hv⟩, b⟩
    exact ⟨⟨v, rfl, a, c, hv, h.carry b⟩, b⟩
end
/-- Fewer still. -/
structure Fw100 (F : List Ln) : Prop where
  len : F.length ≤ 100
  each : ∀ l ∈ F, Word l.s ∧ l.L.length ≤ 110
theorem Fw100.few {F : List Ln} (h : Fw100 F) : Few F := ⟨by have := h.len; omega, fun l hl => ⟨(h.each l hl).1, by have := (h.each l hl).2; omega⟩⟩
theorem xZ_few : Few xZ.F := ⟨by decide, fun _ h => by cases h⟩
theorem nwX_few (o g n : Int) : Few (nwX o g n).F := by
  unfold nwX
  split
  · rename_i h
    exact ⟨by show (nwF o.toNat).length ≤ 200; rw [nwF_len]; have := h.1; omega, fun l hl => by
      rw [(List.mem_replicate.1 hl).2]; exact ⟨⟨by decide, by decide⟩, by decide⟩⟩
  · exact xZ_few
theorem shX_few {x : Fa} (h : Few x.F) (o g n : Int) : Few (shX x o g n).F := by
  unfold shX
  split
  · rename_i hg
    exact (h.sh (by have := hg.1; omega)).trm o
  · exact xZ_few
theorem jnX_few {x : Fa} (h : Few x.F) (h2 : ∀ k, (gl x.F k).L.length ≤ 999) (hr : Word x.r) (k : Int) (t : Tk) : Few (jnX x k t).F := by
  unfold jnX
  split
  · exact xZ_few
  · split
    · exact xZ_few
    · exact h.set ⟨jnS_word (h.at _).1 hr, by have := h2 k.toNat; simp; omega⟩
theorem tkX_few {x : Fa} (h : Few x.F) : Few (tkX x).F := by
  unfold tkX
  split
  · exact h
  · exact (h.set ⟨tkS_word (h.at _).1, by have := (h.at (nxt x.F x.g).toNat).2; simp; omega⟩).trm _
theorem dpX_few {x : Fa} (h : Few x.F) (id : Int) : Few (dpX x id).F := by
  unfold dpX
  split
  · have h1 := (h.at (dpK x.F id)).2
    have h2 := drL_len id (gl x.F (dpK x.F id)).L
    exact (Few.set h (k := dpK x.F id) (l := ⟨(gl x.F (dpK x.F id)).s, drL id (gl x.F (dpK x.F id)).L⟩) ⟨(h.at (dpK x.F id)).1, Nat.le_trans h2 h1⟩).trm _
  · exact h
end Go.Proofs.Ytlgibnmoogbdcaa

namespace Go.Proofs.Ytlgibnmoogbdcaa
open Go.RowKit

def FaT (S : Nat → Prop) (w : World) (x : Fa) (v : Value) : Prop := FaS S w x.r x.g x.n x.o x.F v
theorem StR.nil (S : Nat → Prop) (w : World) : StR S w none 0 [] := ⟨Nat.le_refl _, fun _ => rfl, [], rfl, fun _ _ => ⟨fun h => absurd rfl h, fun _ h => by cases h⟩⟩
theorem xZ_t (S : Nat → Prop) (w : World) : FaT S w xZ faZ := ⟨none, 0, rfl, StR.nil S w⟩
theorem FaS.low {S T : Nat → Prop} {w : World} {r g n o : Int} {F : List Ln} {v : Value} (h : FaS S w r g n o F v) (e : ∀ j, j < w.heap.size → T j → S j) : FaS T w r g n o F v := by
  obtain ⟨a, c, e', s⟩ := h
  exact ⟨a, c, e', s.low e⟩
theorem FaT.w {S : Nat → Prop} {w : World} {x : Fa} {v : Value} (h : FaT S w x v) : FaW w x v := FaS.read h (Kept.refl _ _)
/-- Shut. -/
def suX (x : Fa) : Fa := ⟨x.r, x.g, x.n, 0, trm x.F 0⟩
theorem new_st (S : Nat → Prop) (o g n : Int) (w : World) (hS : ∀ j, S j → j < w.heap.size) : Calls Try.prog 21 #[.int .i64 o, .int .i64 g, .int .i64 n] w fun e w' => (∃ v, e = .returned (.tuple #[v, .int .i64 (nwE o g n)]) ∧ FaT S w' (nwX o g n) v) ∧ Below w.heap.size w w' := by
  unfold nwX nwE
  by_cases h : Good o g n
  · rw [if_pos h, if_pos h]
    obtain ⟨m, rfl⟩ : ∃ m : Nat, o = m := ⟨o.toNat, by have := h.1; omega⟩
    refine (new_yes m g n w h).mono ?_
    rintro e w' ⟨⟨v, rfl, hv⟩, b⟩
    exact ⟨⟨v, rfl, by rw [Int.toNat_natCast]; exact hv.st (fun j hj hs => absurd (hS j hs) (by omega))⟩, b⟩
  · rw [if_neg h, if_neg h]
    refine (new_no o g n w h).mono ?_
    rintro e w' ⟨rfl, b⟩
    exact ⟨⟨_, rfl, xZ_t S w'⟩, b⟩
theorem rnew_st (S : Nat → Prop) (o g n : Int) (w : World) (hS : ∀ j, S j → j < w.heap.size) : Calls Try.prog 22 #[.int .i64 o, .int .i64 g, .int .i64 n] w fun e w' => (∃ v, e = .returned (.tuple #[v, .int .i64 (nwE o g n)]) ∧ FaT S w' (nwX o g n) v) ∧ Below w.heap.size w w' := by
  unfold nwX nwE
  by_cases h : Good o g n
  · rw [if_pos h, if_pos h]
    obtain ⟨m, rfl⟩ : ∃ m : Nat, o = m := ⟨o.toNat, by have := h.1; omega⟩
    refine (rnew_yes m g n w h).mono ?_
    rintro e w' ⟨⟨v, rfl, hv⟩, b⟩
    exact ⟨⟨v, rfl, by rw [Int.toNat_natCast]; exact hv.st (fun j hj hs => absurd (hS j hs) (by omega))⟩, b⟩
  · rw [if_neg h, if_neg h]
    refine (rnew_no o g n w h).mono ?_
    rintro e w' ⟨rfl, b⟩
    exact ⟨⟨_, rfl, xZ_t S w'⟩, b⟩
section
variable (x : Fa) (a : Option Addr) (c : Nat) (w : World) (S : Nat → Prop) (h : StR S w a c x.F) (hS : ∀ j, S j → j < w.heap.size) (hf : Few x.F)
include h hS hf
theorem shape_st (o g n : Int) : Calls Try.prog 57 #[.agg #[.int .u64 x.r, .int .i64 x.g, .int .i64 x.n, .int .i64 x.o, .slice a x.F.length c], .int .i64 o, .int .i64 g, .int .i64 n] w fun e w' => (∃ v, e = .returned (.tuple #[v, .int .i64 (nwE o g n)]) ∧ FaT S w' (shX x o g n) v) ∧ Below w.heap.size w w' := by
  unfold shX nwE
  by_cases hg : Good o g n
  · rw [if_pos hg, if_pos hg]
    obtain ⟨m, rfl⟩ : ∃ m : Nat, o = m := ⟨o.toNat, by have := hg.1; omega⟩
    refine (shape_yes x.r x.g x.n x.o g n m a c x.F w (h.read (Kept.refl _ _)) hf hg).mono ?_
    rintro e w' ⟨⟨v, rfl, hv⟩, b⟩
    exact ⟨⟨v, rfl, by rw [Int.toNat_natCast]; exact hv.low (fun j _ hs => hS j hs)⟩, b⟩
  · rw [if_neg hg, if_neg hg]
    refine (shape_no x.r x.g x.n x.o o g n a c x.F w hg).mono ?_
    rintro e w' ⟨rfl, b⟩
    exact ⟨⟨_, rfl, xZ_t S w'⟩, b⟩
theorem rshape_st (o g n : Int) : Calls Try.prog 65 #[.agg #[.int .u64 x.r, .int .i64 x.g, .int .i64 x.n, .int .i64 x.o, .slice a x.F.length c], .int .i64 o, .int .i64 g, .int .i64 n] w fun e w' => (∃ v, e = .returned (.tuple #[v, .int .i64 (nwE o g n)]) ∧ FaT S w' (shX x o g n) v) ∧ Below w.heap.size w w' := by
  unfold shX nwE
  by_cases hg : Good o g n
  · rw [if_pos hg, if_pos hg]
    obtain ⟨m, rfl⟩ : ∃ m : Nat, o = m := ⟨o.toNat, by have := hg.1; omega⟩
    refine (rshape_yes x.r x.g x.n x.o g n m a c x.F w (h.read (Kept.refl _ _)) hf hg).mono ?_
    rintro e w' ⟨⟨v, rfl, hv⟩, b⟩
    exact ⟨⟨v, rfl, by rw [Int.toNat_natCast]; exact hv.low (fun j _ hs => hS j hs)⟩, b⟩
  · rw [if_neg hg, if_neg hg]
    refine (rshape_no x.r x.g x.n x.o o g n a c x.F w hg).mono ?_
    rintro e w' ⟨rfl, b⟩
    exact ⟨⟨_, rfl, xZ_t S w'⟩, b⟩
end
section
variable (x : Fa) (a : Option Addr) (c : Nat) (ah : Option Addr) (nh ch : Nat) (H0 : Nat → Int) (t : Tk) (w : World) (S : Nat → Prop) (h : StR S w a c x.F) (hS : ∀ j, S j → j < w.heap.size) (hf : Few x.F) (hh : HnR w ah nh H0) (hnh : nh ≤ 1000)
include h hS hf hh hnh
theorem join_st : Calls Try.prog 71 #[.agg #[.int .u64 x.r, .int .i64 x.g, .int .i64 x.n, .int .i64 x.o, .slice a x.F.length c], .slice ah nh ch, .agg #[.int .i64 t.id, .int .i64 t.wid, .int .i64 t.sts, .int .i64 t.sin, .int .i64 t.unt]] w fun e w' => (∃ v, e = .returned (.tuple #[v, .int .i64 (jnK x (chF x.F x.o H0 nh)), .int .i64 (jnE x (chF x.F x.o H0 nh))]) ∧ FaT S w' (jnX x (chF x.F x.o H0 nh) t) v) ∧ Below w.heap.size w w' := by
  rcases (chF_is x.F x.o H0 nh).rng with hk | hk
  · rw [hk]
    refine (fjoin_none x.r x.g x.n x.o a c x.F ah nh ch H0 t w (h.read (Kept.refl _ _)) hf hh hnh hk).mono ?_
    rintro e w' ⟨rfl, b⟩
    exact ⟨⟨_, rfl, xZ_t S w'⟩, b⟩
  · obtain ⟨k, hk2⟩ : ∃ k : Nat, chF x.F x.o H0 nh = k := ⟨(chF x.F x.o H0 nh).toNat, by have := hk.1; omega⟩
    have hkn : k < x.F.length := by have := hk.2.2; omega
    have hneg : ¬ (k : Int) < 0 := by omega
    rw [hk2]
    simp only [jnX, jnK, jnE, if_neg hneg, Int.toNat_natCast]
    by_cases hfull : x.n ≤ ((gl x.F k).L.length : Int)
    · simp only [if_pos hfull]
      refine (fjoin_full x.r x.g x.n x.o a c x.F ah nh ch H0 t w (h.read (Kept.refl _ _)) hf hh hnh k hkn hk2 hfull).mono ?_
      rintro e w' ⟨rfl, b⟩
      exact ⟨⟨_, rfl, xZ_t S w'⟩, b⟩
    · simp only [if_neg hfull]
      refine (fjoin_yes x.r x.g x.n x.o a c x.F ah nh ch H0 t w (h.read (Kept.refl _ _)) hf hh hnh k hkn hk2 (by omega)).mono ?_
      rintro e w' ⟨⟨v, rfl, hv⟩, b⟩
      exact ⟨⟨v, rfl, hv.low (fun j _ hs => hS j hs)⟩, b⟩
theorem rjoin_st : Calls Try.prog 59 #[.agg #[.int .u64 x.r, .int .i64 x.g, .int .i64 x.n, .int .i64 x.o, .slice a x.F.length c], .slice ah nh ch, .agg #[.int .i64 t.id, .int .i64 t.wid, .int .i64 t.sts, .int .i64 t.sin, .int .i64 t.unt]] w fun e w' => (∃ v, e = .returned (.tuple #[v, .int .i64 (jnK x (chF x.F x.o H0 nh)), .int .i64 (jnE x (chF x.F x.o H0 nh))]) ∧ FaT S w' (jnX x (chF x.F x.o H0 nh) t) v) ∧ Below w.heap.size w w' := by
  rcases (chF_is x.F x.o H0 nh).rng with hk | hk
  · rw [hk]
    refine (rfjoin_none x.r x.g x.n x.o a c x.F ah nh ch H0 t w (h.read (Kept.refl _ _)) hf hh hnh hk).mono ?_
    rintro e w' ⟨rfl, b⟩
    exact ⟨⟨_, rfl, xZ_t S w'⟩, b⟩
  · obtain ⟨k, hk2⟩ : ∃ k : Nat, chF x.F x.o H0 nh = k := ⟨(chF x.F x.o H0 nh).toNat, by have := hk.1; omega⟩
    have hkn : k < x.F.length := by have := hk.2.2; omega
    have hneg : ¬ (k : Int) < 0 := by omega
    rw [hk2]
    simp only [jnX, jnK, jnE, if_neg hneg, Int.toNat_natCast]
    by_cases hfull : x.n ≤ ((gl x.F k).L.length : Int)
    · simp only [if_pos hfull]
      refine (rfjoin_full x.r x.g x.n x.o a c x.F ah nh ch H0 t w (h.read (Kept.refl _ _)) hf hh hnh k hkn hk2 hfull).mono ?_
      rintro e w' ⟨rfl, b⟩
      exact ⟨⟨_, rfl, xZ_t S w'⟩, b⟩
    · simp only [if_neg hfull]
      refine (rfjoin_yes x.r x.g x.n x.o a c x.F ah nh ch H0 t w (h.read (Kept.refl _ _)) hf hh hnh k hkn hk2 (by omega)).mono ?_
      rintro e w' ⟨⟨v, rfl, hv⟩, b⟩
      exact ⟨⟨v, rfl, hv.low (fun j _ hs => hS j hs)⟩, b⟩
end
section
variable (x : Fa) (a : Option Addr) (c : Nat) (w : World) (S : Nat → Prop) (h : StR S w a c x.F) (hS : ∀ j, S j → j < w.heap.size) (hf : Few x.F)
include h hS hf
theorem take_st : Calls Try.prog 41 #[.agg #[.int .u64 x.r, .int .i64 x.g, .int .i64 x.n, .int .i64 x.o, .slice a x.F.length c]] w fun e w' => (∃ v, e = .returned (.tuple #[v, .agg #[.int .i64 (tkT x).id, .int .i64 (tkT x).wid, .int .i64 (tkT x).sts, .int .i64 (tkT x).sin, .int .i64 (tkT x).unt], .bool (tkO x)]) ∧ FaT S w' (tkX x) v) ∧ Below w.heap.size w w' := by
  unfold tkX tkT tkO
  rcases (nxt_is x.F x.g).rng with hk | ⟨k, hk, -, -, -⟩
  · rw [hk, if_pos (by decide), if_pos (by decide)]
    refine (ftake_none x.r x.g x.n x.o a c x.F w (h.read (Kept.refl _ _)) hf hk).mono ?_
    rintro e w' ⟨⟨v, rfl, hv⟩, b⟩
    exact ⟨⟨v, rfl, hv.low (fun j _ hs => hS j hs)⟩, b⟩
  · rw [hk, if_neg (by omega), if_neg (by omega), Int.toNat_natCast, decide_eq_true (by omega)]
    refine (ftake_yes x.r x.g x.n x.o a c x.F w (h.read (Kept.refl _ _)) hf k hk).mono ?_
    rintro e w' ⟨⟨v, rfl, hv⟩, b⟩
    exact ⟨⟨v, rfl, hv.low (fun j _ hs => hS j hs)⟩, b⟩
theorem rtake_st : Calls Try.prog 63 #[.agg #[.int .u64 x.r, .int .i64 x.g, .int .i64 x.n, .int .i64 x.o, .slice a x.F.length c]] w fun e w' => (∃ v, e = .returned (.tuple #[v, .agg #[.int .i64 (tkT x).id, .int .i64 (tkT x).wid, .int .i64 (tkT x).sts, .int .i64 (tkT x).sin, .int .i64 (tkT x).unt], .bool (tkO x)]) ∧ FaT S w' (tkX x) v) ∧ Below w.heap.size w w' := by
  unfold tkX tkT tkO
  rcases (nxt_is x.F x.g).rng with hk | ⟨k, hk, -, -, -⟩
  · rw [hk, if_pos (by decide), if_pos (by decide)]
    refine (rftake_none x.r x.g x.n x.o a c x.F w (h.read (Kept.refl _ _)) hf hk).mono ?_
    rintro e w' ⟨⟨v, rfl, hv⟩, b⟩
    exact ⟨⟨v, rfl, a, c, hv, h.high b (fun _ _ e => e)⟩, b⟩
  · rw [hk, if_neg (by omega), if_neg (by omega), Int.toNat_natCast, decide_eq_true (by omega)]
    refine (rftake_yes x.r x.g x.n x.o a c x.F w (h.read (Kept.refl _ _)) hf k hk).mono ?_
    rintro e w' ⟨⟨v, rfl, hv⟩, b⟩
    exact ⟨⟨v, rfl, hv.low (fun j _ hs => hS j hs)⟩, b⟩
theorem drop_st (id : Int) : Calls Try.prog 48 #[.agg #[.int .u64 x.r, .int .i64 x.g, .int .i64 x.n, .int .i64 x.o, .slice a x.F.length c], .int .i64 id] w fun e w' => (∃ v, e = .returned (.tuple #[v, .agg #[.int .i64 (dpT x id).id, .int .i64 (dpT x id).wid, .int .i64 (dpT x id).sts, .int .i64 (dpT x id).sin, .int .i64 (dpT x id).unt], .bool (dpO x id)]) ∧ FaT S w' (dpX x id) v) ∧ Below w.heap.size w w' := by
  unfold dpX dpT dpO
  by_cases hk : dpK x.F id < x.F.length
  · rw [if_pos hk, if_pos hk, decide_eq_true hk]
    refine (fdrop_yes x.r x.g x.n x.o a c x.F id w (h.read (Kept.refl _ _)) hf (dpK x.F id) hk (fun j hj => dpK_no hj (by omega)) (dpK_yes hk)).mono ?_
    rintro e w' ⟨⟨v, rfl, hv⟩, b⟩
    exact ⟨⟨v, rfl, hv.low (fun j _ hs => hS j hs)⟩, b⟩
  · rw [if_neg hk, if_neg hk, decide_eq_false hk]
    refine (fdrop_none x.r x.g x.n x.o a c x.F id w (h.read (Kept.refl _ _)) hf (fun j hj => dpK_no (by omega) hj)).mono ?_
    rintro e w' ⟨⟨v, rfl, hv⟩, b⟩
    exact ⟨⟨v, rfl, hv.low (fun j _ hs => hS j hs)⟩, b⟩
theorem rdrop_st (id : Int) : Calls Try.prog 64 #[.agg #[.int .u64 x.r, .int .i64 x.g, .int .i64 x.n, .int .i64 x.o, .slice a x.F.length c], .int .i64 id] w fun e w' => (∃ v, e = .returned (.tuple #[v, .agg #[.int .i64 (dpT x id).id, .int .i64 (dpT x id).wid, .int .i64 (dpT x id).sts, .int .i64 (dpT x id).sin, .int .i64 (dpT x id).unt], .bool (dpO x id)]) ∧ FaT S w' (dpX x id) v) ∧ Below w.heap.size w w' := by
  unfold dpX dpT dpO
  by_cases hk : dpK x.F id < x.F.length
  · rw [if_pos hk, if_pos hk, decide_eq_true hk]
    refine (rfdrop_yes x.r x.g x.n x.o a c x.F id w (h.read (Kept.refl _ _)) hf (dpK x.F id) hk (fun j hj => dpK_no hj (by omega)) (dpK_yes hk)).mono ?_
    rintro e w' ⟨⟨v, rfl, hv⟩, b⟩
    exact ⟨⟨v, rfl, hv.low (fun j _ hs => hS j hs)⟩, b⟩
  · rw [if_neg hk, if_neg hk, decide_eq_false hk]
    refine (rfdrop_none x.r x.g x.n x.o a c x.F id w (h.read (Kept.refl _ _)) hf (fun j hj => dpK_no (by omega) hj)).mono ?_
    rintro e w' ⟨⟨v, rfl, hv⟩, b⟩
    exact ⟨⟨v, rfl, a, c, hv, h.high b (fun _ _ e => e)⟩, b⟩
end
section
variable (x : Fa) (a : Option Addr) (c : Nat) (w : World) (S : Nat → Prop) (h : StR S w a c x.F) (hS : ∀ j, S j → j < w.heap.size) (hf : Few x.F)
include h hS hf
theorem shut_st : Calls Try.prog 58 #[.agg #[.int .u64 x.r, .int .i64 x.g, .int .i64 x.n, .int .i64 x.o, .slice a x.F.length c]] w fun e w' => (∃ v, e = .returned v ∧ FaT S w' (suX x) v) ∧ Below w.heap.size w w' := by
  refine (shut_ok x.r x.g x.n x.o a c x.F w (h.read (Kept.refl _ _)) hf).mono ?_
  rintro e w' ⟨⟨v, rfl, hv⟩, b⟩
  exact ⟨⟨v, rfl, hv.low (fun j _ hs => hS j hs)⟩, b⟩
theorem rcopy_st : Calls Try.prog 23 #[.agg #[.int .u64 x.r, .int .i64 x.g, .int .i64 x.n, .int .i64 x.o, .slice a x.F.length c]] w fun e w' => (∃ v, e = .returned v ∧ FaT S w' x v) ∧ Below w.heap.size w w' := by
  refine (rcopy_ok x.r x.g x.n x.o a c x.F w (h.read (Kept.refl _ _)) hf).mono ?_
  rintro e w' ⟨⟨v, rfl, hv⟩, b⟩
  exact ⟨⟨v, rfl, hv.st (fun j hj hs => absurd (hS j hs) (by omega))⟩, b⟩
end
end Go.Proofs.Ytlgibnmoogbdcaa

namespace Go.Proofs.Ytlgibnmoogbdcaa

theorem wt_app (F : List Ln) (m : Nat) : ∀ k, k ≤ m → wtT (F.take m) k = wtT F k
  | 0, _ => rfl
  | k + 1, h => by
    unfold wtT
    rw [wt_app F m k (by omega), gl_take (by omega)]
theorem st_app (F : List Ln) (m : Nat) : ∀ k, k ≤ m → stT (F.take m) k = stT F k
  | 0, _ => rfl
  | k + 1, h => by
    unfold stT
    rw [st_app F m k (by omega), gl_take (by omega)]
theorem sW_nil {l : Ln} (h : l.L = []) : sW l = 0 := by
  unfold sW
  rw [h]
  rfl
theorem wt_trN (F : List Ln) (o : Int) : ∀ n, wtT F (trN F o n) = wtT F n
  | 0 => rfl
  | n + 1 => by
    unfold trN
    split
    · rename_i h
      rw [wt_trN F o n]
      show wtT F n = wtT F n + ((gl F n).L.length : Int)
      rw [h.2]
      simp
    · rfl
theorem st_trN (F : List Ln) (o : Int) : ∀ n, stT F (trN F o n) = stT F n
  | 0 => rfl
  | n + 1 => by
    unfold trN
    split
    · rename_i h
      rw [st_trN F o n]
      show stT F n = stT F n + sW (gl F n)
      rw [sW_nil h.2]
      simp
    · rfl
/-- How many wait, and their seats, in all. -/
def wtA (F : List Ln) : Int := wtT F F.length
def stA (F : List Ln) : Int := stT F F.length
theorem wt_trm (F : List Ln) (o : Int) : wtA (trm F o) = wtA F := by
  unfold wtA
  rw [trm_len]
  unfold trm
  rw [wt_app F _ _ (Nat.le_refl _), wt_trN]
theorem st_trm (F : List Ln) (o : Int) : stA (trm F o) = stA F := by
  unfold stA
  rw [trm_len]
  unfold trm
  rw [st_app F _ _ (Nat.le_refl _), st_trN]
theorem wt_zero {F : List Ln} : ∀ n, wtT F n = 0 → ∀ k, k < n → (gl F k).L = []
  | 0, _, k, h => absurd h (Nat.not_lt_zero k)
  | n + 1, h, k, hk => by
    have h0 := wtT_lo F n
    have h1 : wtT F n + ((gl F n).L.length : Int) = 0 := h
    rcases Nat.lt_or_eq_of_le (Nat.le_of_lt_succ hk) with c | rfl
    · exact wt_zero n (by omega) k c
    · exact List.eq_nil_of_length_eq_zero (by omega)
theorem wt_none {F : List Ln} : ∀ n, (∀ k, k < n → (gl F k).L = []) → wtT F n = 0 ∧ stT F n = 0
  | 0, _ => ⟨rfl, rfl⟩
  | n + 1, h => by
    obtain ⟨h1, h2⟩ := wt_none n (fun k hk => h k (by omega))
    have h3 := h n (Nat.lt_succ_self n)
    unfold wtT stT
    rw [h1, h2, h3, sW_nil h3]
    exact ⟨rfl, rfl⟩
theorem st_zero {F : List Ln} (h : wtA F = 0) : stA F = 0 := (wt_none F.length (wt_zero F.length h)).2
theorem trN_all {F : List Ln} : ∀ n, (∀ k, k < n → (gl F k).L = []) → trN F 0 n = 0
  | 0, _ => rfl
  | n + 1, h => by
    unfold trN
    rw [if_pos ⟨by omega, h n (Nat.lt_succ_self n)⟩]
    exact trN_all n (fun k hk => h k (by omega))
/-- Lanes that are shut are gone once nobody waits. -/
theorem trm_gone {F : List Ln} (h : wtA (trm F 0) = 0) : trm F 0 = [] := by
  rw [wt_trm] at h
  unfold trm
  rw [trN_all F.length (wt_zero F.length h)]
  rfl
theorem gl_set2 (F : List Ln) (k j : Nat) (l : Ln) : gl (F.set k l) j = if j = k ∧ k < F.length then l else gl F j := by
  by_cases e : j = k
  · subst e
    by_cases h : j < F.length
    · rw [if_pos ⟨rfl, h⟩, gl_set_same h]
    · rw [if_neg (fun c => h c.2), gl_out (by rw [List.length_set]; omega), gl_out (by omega)]
  · rw [if_neg (fun c => e c.1), gl_set_ne (Ne.symm e)]
theorem wt_set {F : List Ln} {p : Nat} (hp : p < F.length) (l : Ln) : ∀ n, wtT (F.set p l) n = wtT F n + (if p < n then (l.L.length : Int) - ((gl F p).L.length : Int) else 0)
  | 0 => by rw [if_neg (Nat.not_lt_zero p)]; rfl
  | n + 1 => by
    have ih := wt_set hp l n
    show wtT (F.set p l) n + ((gl (F.set p l) n).L.length : Int) = wtT F n + ((gl F n).L.length : Int) + _
    rw [ih, gl_set2]
    by_cases c : n = p ∧ p < F.length
    · obtain ⟨rfl, -⟩ := c
      rw [if_neg (Nat.lt_irrefl n), if_pos (show n = n ∧ n < F.length from ⟨rfl, hp⟩), if_pos (Nat.lt_succ_self n)]
      omega
    · rw [if_neg c]
      by_cases d : p < n
      · rw [if_pos d, if_pos (by omega)]
        omega
      · rw [if_neg d, if_neg (fun e => c ⟨by omega, hp⟩)]
        omega
theorem st_set {F : List Ln} {p : Nat} (hp : p < F.length) (l : Ln) : ∀ n, stT (F.set p l) n = stT F n + (if p < n then sW l - sW (gl F p) else 0)
  | 0 => by rw [if_neg (Nat.not_lt_zero p)]; rfl
  | n + 1 => by
    have ih := st_set hp l n
    show stT (F.set p l) n + sW (gl (F.set p l) n) = stT F n + sW (gl F n) + _
    rw [ih, gl_set2]
    by_cases c : n = p ∧ p < F.length
    · obtain ⟨rfl, -⟩ := c
      rw [if_neg (Nat.lt_irrefl n), if_pos (show n = n ∧ n < F.length from ⟨rfl, hp⟩), if_pos (Nat.lt_succ_self n)]
      omega
    · rw [if_neg c]
      by_cases d : p < n
      · rw [if_pos d, if_pos (by omega)]
        omega
      · rw [if_neg d, if_neg (fun e => c ⟨by omega, hp⟩)]
        omega
theorem seats_cons (t : Tk) (L : List Tk) : ∀ k, seatsTo (t :: L) (k + 1) = clW t.wid + seatsTo L k
  | 0 => by
    show 0 + clW (gt (t :: L) 0).wid = clW t.wid + 0
    rw [gt_cons_zero]
    omega
  | k + 1 => by
    show seatsTo (t :: L) (k + 1) + clW (gt (t :: L) (k + 1)).wid = clW t.wid + (seatsTo L k + clW (gt L k).wid)
    rw [seats_cons t L k, gt_cons_succ]
    omega
theorem sW_tail {l : Ln} (h : l.L ≠ []) (s' : Int) : sW ⟨s', l.L.tail⟩ = sW l - clW (gt l.L 0).wid := by
  obtain ⟨s, L⟩ := l
  cases L with
  | nil => exact absurd rfl h
  | cons t L =>
    unfold sW
    show seatsTo L L.length = seatsTo (t :: L) (L.length + 1) - clW t.wid
    rw [seats_cons]
    omega
/-- Whoever waits, somebody is next. -/
theorem nxt_some {F : List Ln} {g : Int} (h : 0 < wtA F) : ∃ p : Nat, nxt F g = p ∧ p < F.length ∧ (gl F p).L ≠ [] := by
  rcases nxt_is F g with ⟨-, h0⟩ | ⟨p, -, hp, e, hne, -⟩
  · have := (wt_none F.length (fun k hk => h0 k (Nat.zero_le _) hk)).1
    unfold wtA at h
    omega
  · exact ⟨p, e, hp, hne⟩
theorem nxt_no {F : List Ln} {g : Int} (h : wtA F = 0) : nxt F g = -1 := by
  rcases nxt_is F g with ⟨e, -⟩ | ⟨p, -, hp, -, hne, -⟩
  · exact e
  · exact absurd (wt_zero F.length h p hp) hne
/-- One less waits, and the seats are fewer by its width. -/
theorem tk_less {x : Fa} {p : Nat} (e : nxt x.F x.g = p) (hp : p < x.F.length) (hne : (gl x.F p).L ≠ []) :
    tkT x = gt (gl x.F p).L 0 ∧ tkO x = true ∧ (tkX x).o = x.o ∧ (tkX x).F = trm (tkF x.F p x.g) x.o ∧ (tkX x).F.length ≤ x.F.length ∧ wtA (tkX x).F = wtA x.F - 1 ∧ stA (tkX x).F = stA x.F - clW (gt (gl x.F p).L 0).wid := by
  have e1 : tkX x = ⟨max x.r (fN x.g (gl x.F p)), x.g, x.n, x.o, trm (tkF x.F p x.g) x.o⟩ := by
    unfold tkX
    rw [e, if_neg (by omega), Int.toNat_natCast]
  refine ⟨by unfold tkT; rw [e, if_neg (by omega), Int.toNat_natCast], by unfold tkO; rw [e]; exact decide_eq_true (by omega), by rw [e1], by rw [e1], ?_, ?_, ?_⟩
  · rw [e1]
    show (trm (tkF x.F p x.g) x.o).length ≤ _
    rw [trm_len]
    have := trN_le (tkF x.F p x.g) x.o (tkF x.F p x.g).length
    have h2 : (tkF x.F p x.g).length = x.F.length := List.length_set
    omega
  · rw [e1]
    show wtA (trm (tkF x.F p x.g) x.o) = _
    rw [wt_trm]
    unfold wtA tkF
    rw [List.length_set, wt_set hp, if_pos hp]
    show _ + (((gl x.F p).L.tail.length : Int) - _) = _
    have := len_pos hne
    rw [List.length_tail]
    omega
  · rw [e1]
    show stA (trm (tkF x.F p x.g) x.o) = _
    rw [st_trm]
    unfold stA tkF
    rw [List.length_set, st_set hp, if_pos hp, sW_tail hne]
    omega
theorem wtA_rng {F : List Ln} (h : Few F) : 0 ≤ wtA F ∧ wtA F ≤ 200000 := by
  have h1 := wtT_lo F F.length
  have h2 := wtT_hi h F.length
  have h3 := h.len
  unfold wtA
  omega
theorem stA_rng {F : List Ln} (h : Few F) : 0 ≤ stA F ∧ stA F ≤ 3200000 := by
  have h1 := stT_lo F F.length
  have h2 := stT_hi h F.length
  have h3 := h.len
  unfold stA
  omega
end Go.Proofs.Ytlgibnmoogbdcaa
