/-
  The table of a configuration as plain mathematics: filled, in order; its error; its digest; in whatever order it was told; made again.
-/
import Derived.Test.YtijjpblmnlednaaGreatDoorE15
import Derived.Test.YtijjpblmnlednaaGreatDoorE26
import Derived.Test.YtijjpblmnlednaaGreatDoorE34
import Derived.Test.YtijjpblmnlednaaGreatDoorE38
import Derived.Test.YtijjpblmnlednaaGreatDoorE18
namespace Go.Proofs.YtijjpblmnlednaaGreatDoor
def tblC (C : Cf) : Cf := ⟨(fillC C).total, (fillC C).period, (fillC C).perSeat, (fillC C).most, srtB ltL (fillC C).levels, srtB ltS (fillC C).schemas⟩
/-- The error: its number, and what it is of. -/
def mkE (C : Cf) : Int × ByteArray := if (chk (fillC C)).1 = 0 then (printE (tblC C), ⟨#[]⟩) else chk (fillC C)
def mkC (C : Cf) : Cf := if (mkE C).1 = 0 then tblC C else cf0
def mkD (C : Cf) : Nat := if (mkE C).1 = 0 then Fn.sum (outB (tblC C)) else 0

theorem aptL {L : List Lv} (h : L.Pairwise fun a b => a.name ≠ b.name) : Apt ltL L := h.imp fun e => txLt_apart e
theorem aptS {S : List Sc} (h : S.Pairwise fun a b => a.name ≠ b.name) : Apt ltS S := h.imp fun {a b} e => by
  unfold ltS
  simp only [Bool.or_eq_true, Bool.and_eq_true, decide_eq_true_eq]
  rcases Int.lt_trichotomy a.rank b.rank with h | h | h
  · exact .inl (.inl h)
  · exact (txLt_apart e).elim (fun k => .inl (.inr ⟨h, k⟩)) (fun k => .inr (.inr ⟨h.symm, k⟩))
  · exact .inr (.inl h)
theorem Passes.aptL {C : Cf} (h : Passes C) : Apt ltL C.levels := Go.Proofs.YtijjpblmnlednaaGreatDoor.aptL h.f.pl
theorem Passes.aptS {C : Cf} (h : Passes C) : Apt ltS C.schemas := Go.Proofs.YtijjpblmnlednaaGreatDoor.aptS h.f.ps

theorem fillL_pos (L : List Lv) : 0 < (fillL L).length := by
  rcases hn : fillL L with - | ⟨x, r⟩
  · have := (fillL_has L).1; rw [hn] at this; cases this
  · simp
theorem fillS_pos (L : List Sc) : 0 < (fillS L).length := by
  rcases hn : fillS L with - | ⟨x, r⟩
  · have := (fillS_has L).1; rw [hn] at this; cases this
  · simp

/-- What passes is printed, or too long. -/
theorem Passes.tbl {C : Cf} (h : Passes (fillC C)) : Passes (tblC C) := h.turn (srtB_perm _) (srtB_perm _)
theorem printE_passes {C : Cf} (h : Passes C) : printE C = if 65536 < (outB C).size then 3 else 0 := by
  unfold printE; rw [if_pos (formed_iff.2 h.f)]

theorem orU_of {x : Int} (u : Int) (h : x ≠ 0) : orU x u = x := if_neg h
/-- What passes is filled already. -/
theorem fillL_keep {L : List Lv} (h : anyL L tExempt = true) (h' : anyL L tCatch = true) : fillL L = L := by unfold fillL putX; rw [if_pos h', if_pos h]
theorem fillS_keep {L : List Sc} (h : anyS L tExempt = true) (h' : anyS L tCatch = true) : fillS L = L := by unfold fillS putX; rw [if_pos h', if_pos h]
theorem most_ne {C : Cf} : (fillC C).most ≠ 0 := orU_ne _ _ (by decide)
theorem fill_tbl {C : Cf} (h : Passes (fillC C)) : fillC (tblC C) = tblC C := by
  have p := h.tbl.p
  have n := h.n
  have m : (fillC C).most ≠ 0 := most_ne
  show (⟨orU (fillC C).total 100, orU (fillC C).period 10, orU (fillC C).perSeat 100, orU (fillC C).most 10, fillL (tblC C).levels, fillS (tblC C).schemas⟩ : Cf) = tblC C
  rw [orU_of _ n.1, orU_of _ n.2.1, orU_of _ n.2.2, orU_of _ m, fillL_keep p.1 p.2.1, fillS_keep p.2.2.1 p.2.2.2]
  rfl
/-- A table's configuration makes the same table. -/
theorem tbl_again {C : Cf} (h : Passes (fillC C)) : tblC (tblC C) = tblC C := by
  show (⟨(fillC (tblC C)).total, (fillC (tblC C)).period, (fillC (tblC C)).perSeat, (fillC (tblC C)).most, srtB ltL (fillC (tblC C)).levels, srtB ltS (fillC (tblC C)).schemas⟩ : Cf) = tblC C
  rw [fill_tbl h]
  show (⟨_, _, _, _, srtB ltL (srtB ltL (fillC C).levels), srtB ltS (srtB ltS (fillC C).schemas)⟩ : Cf) = tblC C
  rw [srtB_idem strictL h.aptL, srtB_idem strictS h.aptS]
  rfl
theorem mkE_ok {C : Cf} (h : (mkE C).1 = 0) : Passes (fillC C) ∧ printE (tblC C) = 0 := by
  unfold mkE at h
  by_cases c : (chk (fillC C)).1 = 0
  · rw [if_pos c] at h; exact ⟨chk_zero.1 c, h⟩
  · rw [if_neg c] at h; exact absurd h c
theorem mk_again {C : Cf} (h : (mkE C).1 = 0) : mkE (tblC C) = (0, ⟨#[]⟩) ∧ mkC (tblC C) = tblC C ∧ mkD (tblC C) = mkD C := by
  obtain ⟨p, q⟩ := mkE_ok h
  have e1 : mkE (tblC C) = (0, ⟨#[]⟩) := by
    unfold mkE
    rw [fill_tbl p, if_pos (chk_zero.2 p.tbl), tbl_again p, q]
  refine ⟨e1, ?_, ?_⟩
  · unfold mkC; rw [e1, if_pos rfl, tbl_again p]
  · unfold mkD; rw [e1, if_pos rfl, tbl_again p, if_pos h]

/-! Whatever order. -/
theorem putX_perm {α : Type} (b : Bool) {L M : List α} (h : L.Perm M) (x : α) : (putX b L x).Perm (putX b M x) := by
  unfold putX
  cases b
  · exact h.append_right _
  · exact h
theorem fillL_perm {L M : List Lv} (h : L.Perm M) : (fillL L).Perm (fillL M) := by
  unfold fillL
  rw [anyL_perm h, anyL_perm h]
  exact putX_perm _ (putX_perm _ h _) _
theorem fillS_perm {L M : List Sc} (h : L.Perm M) : (fillS L).Perm (fillS M) := by
  unfold fillS
  rw [anyS_perm h, anyS_perm h]
  exact putX_perm _ (putX_perm _ h _) _
theorem mk_turn {C : Cf} {L : List Lv} {S : List Sc} (hL : L.Perm C.levels) (hS : S.Perm C.schemas) :
    ((mkE ⟨C.total, C.period, C.perSeat, C.most, L, S⟩).1 = 0 ↔ (mkE C).1 = 0) ∧ mkC ⟨C.total, C.period, C.perSeat, C.most, L, S⟩ = mkC C ∧ mkD ⟨C.total, C.period, C.perSeat, C.most, L, S⟩ = mkD C := by
  have P : Passes (fillC ⟨C.total, C.period, C.perSeat, C.most, L, S⟩) ↔ Passes (fillC C) := passes_turn (C := fillC C) (fillL_perm hL) (fillS_perm hS)
  by_cases c : Passes (fillC C)
  · have T : tblC ⟨C.total, C.period, C.perSeat, C.most, L, S⟩ = tblC C := by
      show (⟨_, _, _, _, srtB ltL (fillL L), srtB ltS (fillS S)⟩ : Cf) = tblC C
      rw [srtB_congr strictL c.aptL (fillL_perm hL), srtB_congr strictS c.aptS (fillS_perm hS)]
      rfl
    have E : mkE ⟨C.total, C.period, C.perSeat, C.most, L, S⟩ = mkE C := by
      unfold mkE
      rw [if_pos (chk_zero.2 c), if_pos (chk_zero.2 (P.2 c)), T]
    refine ⟨by rw [E], ?_, ?_⟩
    · unfold mkC; rw [E, T]
    · unfold mkD; rw [E, T]
  · have n1 : ¬ (mkE C).1 = 0 := fun h => c (mkE_ok h).1
    have n2 : ¬ (mkE ⟨C.total, C.period, C.perSeat, C.most, L, S⟩).1 = 0 := fun h => c (P.1 (mkE_ok h).1)
    refine ⟨⟨fun h => absurd h n2, fun h => absurd h n1⟩, ?_, ?_⟩
    · unfold mkC; rw [if_neg n1, if_neg n2]
    · unfold mkD; rw [if_neg n1, if_neg n2]

/-- In whatever order it fits. -/
theorem Fits.turn {C : Cf} (h : Fits C) {L : List Lv} {S : List Sc} (hL : L.Perm C.levels) (hS : S.Perm C.schemas) : Fits ⟨C.total, C.period, C.perSeat, C.most, L, S⟩ :=
  ⟨⟨by show L.length ≤ _; rw [hL.length_eq]; exact h.sz.1, by show S.length ≤ _; rw [hS.length_eq]; exact h.sz.2⟩, ⟨fun l hl => h.nm.1 l (hL.mem_iff.1 hl), fun s hs => h.nm.2 s (hS.mem_iff.1 hs)⟩, fun s hs => h.rl s (hS.mem_iff.1 hs)⟩
theorem Bnd.turn {n : Nat} {C : Cf} (h : Bnd n C) {L : List Lv} {S : List Sc} (hL : L.Perm C.levels) (hS : S.Perm C.schemas) : Bnd n ⟨C.total, C.period, C.perSeat, C.most, L, S⟩ :=
  ⟨by show L.length ≤ _; rw [hL.length_eq]; exact h.lv, by show S.length ≤ _; rw [hS.length_eq]; exact h.sc, fun s hs => h.rl s (hS.mem_iff.1 hs)⟩
end Go.Proofs.YtijjpblmnlednaaGreatDoor
