/-
  What each call answers, told whatever becomes of blocks that were there ahead of it. Conditions: the lanes and the hand lie in memory, and are few.
-/
import Derived.Test.YtemmkkcfjhmomabUn
import Derived.Test.YtemmkkcfjhmomabFh
import Derived.Test.YtemmkkcfjhmomabFr
import Derived.Test.YtemmkkcfjhmomabFt
namespace Go.Proofs.Ytemmkkcfjhmomab
open Go.RowKit

def FaT (S : Nat → Prop) (w : World) (x : Fa) (v : Value) : Prop := FaS S w x.r x.g x.n x.o x.F v
theorem StR.nil (S : Nat → Prop) (w : World) : StR S w none 0 [] := ⟨Nat.le_refl _, fun _ => rfl, [], rfl, fun _ _ => ⟨fun h => absurd rfl h, fun _ h => by cases h⟩⟩
theorem xZ_t (S : Nat → Prop) (w : World) : FaT S w xZ faZ := ⟨none, 0, rfl, StR.nil S w⟩
theorem FaS.low {S T : Nat → Prop} {w : World} {r g n o : Int} {F : List Ln} {v : Value} (h : FaS S w r g n o F v) (e : ∀ j, j < w.heap.size → T j → S j) : FaS T w r g n o F v := by
  obtain ⟨a, c, e', s⟩ := h
  exact ⟨a, c, e', s.low e⟩
theorem FaT.w {S : Nat → Prop} {w : World} {x : Fa} {v : Value} (h : FaT S w x v) : FaW w x v := FaS.read h (Kept.refl _ _)
/-- Shut. -/
def suX (x : Fa) : Fa := ⟨x.r, x.g, x.n, 0, trm x.F 0⟩
theorem new_st (S : Nat → Prop) (o g n : Int) (w : World) (hS : ∀ j, S j → j < w.heap.size) : Calls Try.prog 12 #[.int .i64 o, .int .i64 g, .int .i64 n] w fun e w' => (∃ v, e = .returned (.tuple #[v, .int .i64 (nwE o g n)]) ∧ FaT S w' (nwX o g n) v) ∧ Below w.heap.size w w' := by
  unfold nwX nwE
  by_cases h : Good o g n
  · rw [if_pos h, if_pos h]
    obtain ⟨m, rfl⟩ : ∃ m : Nat, o = m := ⟨o.toNat, by have := h.1; omega⟩
    refine (new_yes m g n w h).mono ?_
    rintro e w' ⟨⟨v, rfl, hv⟩, b⟩
    exact ⟨⟨v, rfl, by rw [Int.toNat_natCast]; exact hv.st (fun j hj hs => absurd (hS j hs) (by omega))⟩, b⟩
  · rw [if_neg h, if_neg h]
    refine (new_no o g n w h).mono ?_
    rintro e w' ⟨rfl, b⟩
    exact ⟨⟨_, rfl, xZ_t S w'⟩, b⟩
section
variable (x : Fa) (a : Option Addr) (c : Nat) (w : World) (S : Nat → Prop) (h : StR S w a c x.F) (hS : ∀ j, S j → j < w.heap.size) (hf : Few x.F)
include h hS hf
end
section
variable (x : Fa) (a : Option Addr) (c : Nat) (ah : Option Addr) (nh ch : Nat) (H0 : Nat → Int) (t : Tk) (w : World) (S : Nat → Prop) (h : StR S w a c x.F) (hS : ∀ j, S j → j < w.heap.size) (hf : Few x.F) (hh : HnR w ah nh H0) (hnh : nh ≤ 1000)
include h hS hf hh hnh
theorem join_st : Calls Try.prog 13 #[.agg #[.int .u64 x.r, .int .i64 x.g, .int .i64 x.n, .int .i64 x.o, .slice a x.F.length c], .slice ah nh ch, .agg #[.int .i64 t.id, .int .i64 t.wid, .int .i64 t.sts, .int .i64 t.sin, .int .i64 t.unt]] w fun e w' => (∃ v, e = .returned (.tuple #[v, .int .i64 (jnK x (chF x.F x.o H0 nh)), .int .i64 (jnE x (chF x.F x.o H0 nh))]) ∧ FaT S w' (jnX x (chF x.F x.o H0 nh) t) v) ∧ Below w.heap.size w w' := by
  rcases (chF_is x.F x.o H0 nh).rng with hk | hk
  · rw [hk]
    refine (fjoin_none x.r x.g x.n x.o a c x.F ah nh ch H0 t w (h.read (Kept.refl _ _)) hf hh hnh hk).mono ?_
    rintro e w' ⟨rfl, b⟩
    exact ⟨⟨_, rfl, xZ_t S w'⟩, b⟩
  · obtain ⟨k, hk2⟩ : ∃ k : Nat, chF x.F x.o H0 nh = k := ⟨(chF x.F x.o H0 nh).toNat, by have := hk.1; omega⟩
    have hkn : k < x.F.length := by have := hk.2.2; omega
    have hneg : ¬ (k : Int) < 0 := by omega
    rw [hk2]
    simp only [jnX, jnK, jnE, if_neg hneg, Int.toNat_natCast]
    by_cases hfull : x.n ≤ ((gl x.F k).L.length : Int)
    · simp only [if_pos hfull]
      refine (fjoin_full x.r x.g x.n x.o a c x.F ah nh ch H0 t w (h.read (Kept.refl _ _)) hf hh hnh k hkn hk2 hfull).mono ?_
      rintro e w' ⟨rfl, b⟩
      exact ⟨⟨_, rfl, xZ_t S w'⟩, b⟩
    · simp only [if_neg hfull]
      refine (fjoin_yes x.r x.g x.n x.o a c x.F ah nh ch H0 t w (h.read (Kept.refl _ _)) hf hh hnh k hkn hk2 (by omega)).mono ?_
      rintro e w' ⟨⟨v, rfl, hv⟩, b⟩
      exact ⟨⟨v, rfl, hv.low (fun j _ hs => hS j hs)⟩, b⟩
end
section
variable (x : Fa) (a : Option Addr) (c : Nat) (w : World) (S : Nat → Prop) (h : StR S w a c x.F) (hS : ∀ j, S j → j < w.heap.size) (hf : Few x.F)
include h hS hf
theorem take_st : Calls Try.prog 10 #[.agg #[.int .u64 x.r, .int .i64 x.g, .int .i64 x.n, .int .i64 x.o, .slice a x.F.length c]] w fun e w' => (∃ v, e = .returned (.tuple #[v, .agg #[.int .i64 (tkT x).id, .int .i64 (tkT x).wid, .int .i64 (tkT x).sts, .int .i64 (tkT x).sin, .int .i64 (tkT x).unt], .bool (tkO x)]) ∧ FaT S w' (tkX x) v) ∧ Below w.heap.size w w' := by
  unfold tkX tkT tkO
  rcases (nxt_is x.F x.g).rng with hk | ⟨k, hk, -, -, -⟩
  · rw [hk, if_pos (by decide), if_pos (by decide)]
    refine (ftake_none x.r x.g x.n x.o a c x.F w (h.read (Kept.refl _ _)) hf hk).mono ?_
    rintro e w' ⟨⟨v, rfl, hv⟩, b⟩
    exact ⟨⟨v, rfl, hv.low (fun j _ hs => hS j hs)⟩, b⟩
  · rw [hk, if_neg (by omega), if_neg (by omega), Int.toNat_natCast, decide_eq_true (by omega)]
    refine (ftake_yes x.r x.g x.n x.o a c x.F w (h.read (Kept.refl _ _)) hf k hk).mono ?_
    rintro e w' ⟨⟨v, rfl, hv⟩, b⟩
    exact ⟨⟨v, rfl, hv.low (fun j _ hs => hS j hs)⟩, b⟩
theorem drop_st (id : Int) : Calls Try.prog 7 #[.agg #[.int .u64 x.r, .int .i64 x.g, .int .i64 x.n, .int .i64 x.o, .slice a x.F.length c], .int .i64 id] w fun e w' => (∃ v, e = .returned (.tuple #[v, .agg #[.int .i64 (dpT x id).id, .int .i64 (dpT x id).wid, .int .i64 (dpT x id).sts, .int .i64 (dpT x id).sin, .int .i64 (dpT x id).unt], .bool (dpO x id)]) ∧ FaT S w' (dpX x id) v) ∧ Below w.heap.size w w' := by
  unfold dpX dpT dpO
  by_cases hk : dpK x.F id < x.F.length
  · rw [if_pos hk, if_pos hk, decide_eq_true hk]
    refine (fdrop_yes x.r x.g x.n x.o a c x.F id w (h.read (Kept.refl _ _)) hf (dpK x.F id) hk (fun j hj => dpK_no hj (by omega)) (dpK_yes hk)).mono ?_
    rintro e w' ⟨⟨v, rfl, hv⟩, b⟩
    exact ⟨⟨v, rfl, hv.low (fun j _ hs => hS j hs)⟩, b⟩
  · rw [if_neg hk, if_neg hk, decide_eq_false hk]
    refine (fdrop_none x.r x.g x.n x.o a c x.F id w (h.read (Kept.refl _ _)) hf (fun j hj => dpK_no (by omega) hj)).mono ?_
    rintro e w' ⟨⟨v, rfl, hv⟩, b⟩
    exact ⟨⟨v, rfl, hv.low (fun j _ hs => hS j hs)⟩, b⟩
end
section
variable (x : Fa) (a : Option Addr) (c : Nat) (w : World) (S : Nat → Prop) (h : StR S w a c x.F) (hS : ∀ j, S j → j < w.heap.size) (hf : Few x.F)
include h hS hf
end
end Go.Proofs.Ytemmkkcfjhmomab
