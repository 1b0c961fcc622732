/-
  The mathematics of 'rules.Check': the first error, and what it is of; what is let pass; whatever order levels and schemas stand in.
-/
import Derived.Test.YtijjpblmnlednaaGreatDoorE27
import Derived.Test.YtijjpblmnlednaaGreatDoorE28
import Derived.Test.YtijjpblmnlednaaGreatDoorE15
namespace Go.Proofs.YtijjpblmnlednaaGreatDoor
def lvT (x : ByteArray) : ByteArray := ⟨#[108, 101, 118, 101, 108, 32]⟩ ++ x
def scT (x : ByteArray) : ByteArray := ⟨#[115, 99, 104, 101, 109, 97, 32]⟩ ++ x
def lvFit (l : Lv) : Bool := if l.name = tExempt then l.kind == 1 else if l.name = tCatch then l.kind != 1 && l.shares != 0 else true
def lvErr (l : Lv) : Int := if l.kind = 3 ∧ refH l.queues l.hand ≠ 0 then refH l.queues l.hand else if lvFit l then 0 else 11
def isStar (L : List ByteArray) : Bool := decide (L = [tStar])
def rlAll (r : Rl) : Bool := isStar r.users && (isStar r.verbs && (isStar r.resources && isStar r.spaces))
def scFit (s : Sc) : Bool :=
  if s.name = tExempt then decide (s.level = tExempt) && s.rank == 1
  else if s.name = tCatch then decide (s.level = tCatch) && (s.rank == 10000 && s.rules.any rlAll) else true
def scErr (L : List Lv) (s : Sc) : Int := if anyL L s.level then (if scFit s then 0 else 11) else 6
/-- The first error of levels, of schemas: its number and what it is of. -/
def firstL : List Lv → Int × ByteArray
  | [] => (0, ⟨#[]⟩)
  | l :: r => if lvErr l = 0 then firstL r else (lvErr l, lvT l.name)
def firstS (L : List Lv) : List Sc → Int × ByteArray
  | [] => (0, ⟨#[]⟩)
  | s :: r => if scErr L s = 0 then firstS L r else (scErr L s, scT s.name)
def lackN (C : Cf) : ByteArray := if C.total = 0 then tTotal else if C.period = 0 then tPeriod else if C.perSeat = 0 then tSeats else ⟨#[]⟩
def lackP (C : Cf) : ByteArray :=
  if anyL C.levels tExempt then if anyL C.levels tCatch then if anyS C.schemas tExempt then if anyS C.schemas tCatch then ⟨#[]⟩ else scT tCatch else scT tExempt else lvT tCatch else lvT tExempt
/-- The first error, 0 for none, and what it is of. -/
def chk (C : Cf) : Int × ByteArray :=
  if formed C then
    if lackN C = ⟨#[]⟩ then
      if (firstL C.levels).1 = 0 then
        if (firstS C.levels C.schemas).1 = 0 then
          if lackP C = ⟨#[]⟩ then (0, ⟨#[]⟩) else (12, lackP C)
        else firstS C.levels C.schemas
      else firstL C.levels
    else (12, lackN C)
  else (2, ⟨#[]⟩)

theorem firstL_zero : ∀ {L : List Lv}, (firstL L).1 = 0 ↔ ∀ l ∈ L, lvErr l = 0
  | [] => ⟨fun _ _ h => (by cases h), fun _ => rfl⟩
  | l :: r => by
    unfold firstL
    by_cases h : lvErr l = 0
    · rw [if_pos h, firstL_zero (L := r)]
      exact ⟨fun k x hx => (List.mem_cons.1 hx).elim (fun e => e ▸ h) (fun q => k x q), fun k x hx => k x (List.mem_cons_of_mem _ hx)⟩
    · rw [if_neg h]
      exact ⟨fun k => absurd k h, fun k => k l (List.mem_cons_self ..)⟩
theorem firstS_zero {M : List Lv} : ∀ {L : List Sc}, (firstS M L).1 = 0 ↔ ∀ l ∈ L, scErr M l = 0
  | [] => ⟨fun _ _ h => (by cases h), fun _ => rfl⟩
  | l :: r => by
    unfold firstS
    by_cases h : scErr M l = 0
    · rw [if_pos h, firstS_zero (L := r)]
      exact ⟨fun k x hx => (List.mem_cons.1 hx).elim (fun e => e ▸ h) (fun q => k x q), fun k x hx => k x (List.mem_cons_of_mem _ hx)⟩
    · rw [if_neg h]
      exact ⟨fun k => absurd k h, fun k => k l (List.mem_cons_self ..)⟩
theorem text_ne (s x : ByteArray) (h : 0 < s.size) : s ++ x ≠ ⟨#[]⟩ := fun e => by
  have := congrArg ByteArray.size e
  rw [cat_size] at this
  have z : (⟨#[]⟩ : ByteArray).size = 0 := rfl
  omega
theorem lvT_ne (x : ByteArray) : lvT x ≠ ⟨#[]⟩ := text_ne _ _ (by decide)
theorem scT_ne (x : ByteArray) : scT x ≠ ⟨#[]⟩ := text_ne _ _ (by decide)
theorem lackN_zero {C : Cf} : lackN C = ⟨#[]⟩ ↔ C.total ≠ 0 ∧ C.period ≠ 0 ∧ C.perSeat ≠ 0 := by
  unfold lackN
  by_cases h1 : C.total = 0
  · rw [if_pos h1]; exact ⟨fun e => absurd e (by decide), fun e => absurd h1 e.1⟩
  · rw [if_neg h1]
    by_cases h2 : C.period = 0
    · rw [if_pos h2]; exact ⟨fun e => absurd e (by decide), fun e => absurd h2 e.2.1⟩
    · rw [if_neg h2]
      by_cases h3 : C.perSeat = 0
      · rw [if_pos h3]; exact ⟨fun e => absurd e (by decide), fun e => absurd h3 e.2.2⟩
      · rw [if_neg h3]; exact ⟨fun _ => ⟨h1, h2, h3⟩, fun _ => rfl⟩
theorem lackP_zero {C : Cf} : lackP C = ⟨#[]⟩ ↔ anyL C.levels tExempt = true ∧ anyL C.levels tCatch = true ∧ anyS C.schemas tExempt = true ∧ anyS C.schemas tCatch = true := by
  unfold lackP
  cases anyL C.levels tExempt <;> cases anyL C.levels tCatch <;> cases anyS C.schemas tExempt <;> cases anyS C.schemas tCatch <;> simp [lvT_ne, scT_ne]

/-- What is let pass. -/
structure Passes (C : Cf) : Prop where
  f : Formed C
  n : C.total ≠ 0 ∧ C.period ≠ 0 ∧ C.perSeat ≠ 0
  l : ∀ l ∈ C.levels, lvErr l = 0
  s : ∀ s ∈ C.schemas, scErr C.levels s = 0
  p : anyL C.levels tExempt = true ∧ anyL C.levels tCatch = true ∧ anyS C.schemas tExempt = true ∧ anyS C.schemas tCatch = true

theorem chk_zero {C : Cf} : (chk C).1 = 0 ↔ Passes C := by
  unfold chk
  by_cases h0 : formed C = true
  · rw [if_pos h0]
    by_cases h1 : lackN C = ⟨#[]⟩
    · rw [if_pos h1]
      by_cases h2 : (firstL C.levels).1 = 0
      · rw [if_pos h2]
        by_cases h3 : (firstS C.levels C.schemas).1 = 0
        · rw [if_pos h3]
          by_cases h4 : lackP C = ⟨#[]⟩
          · rw [if_pos h4]
            exact ⟨fun _ => ⟨formed_iff.1 h0, lackN_zero.1 h1, firstL_zero.1 h2, firstS_zero.1 h3, lackP_zero.1 h4⟩, fun _ => rfl⟩
          · rw [if_neg h4]; exact ⟨fun e => absurd (show (12 : Int) = 0 from e) (by decide), fun e => absurd (lackP_zero.2 e.p) h4⟩
        · rw [if_neg h3]; exact ⟨fun e => absurd e h3, fun e => absurd (firstS_zero.2 e.s) h3⟩
      · rw [if_neg h2]; exact ⟨fun e => absurd e h2, fun e => absurd (firstL_zero.2 e.l) h2⟩
    · rw [if_neg h1]; exact ⟨fun e => absurd (show (12 : Int) = 0 from e) (by decide), fun e => absurd (lackN_zero.2 e.n) h1⟩
  · rw [if_neg h0]; exact ⟨fun e => absurd (show (2 : Int) = 0 from e) (by decide), fun e => absurd (formed_iff.2 e.f) h0⟩

theorem anyL_perm {L M : List Lv} (h : L.Perm M) (x : ByteArray) : anyL L x = anyL M x := by
  unfold anyL
  rw [Bool.eq_iff_iff, List.any_eq_true, List.any_eq_true]
  exact ⟨fun ⟨y, hy, e⟩ => ⟨y, h.mem_iff.1 hy, e⟩, fun ⟨y, hy, e⟩ => ⟨y, h.mem_iff.2 hy, e⟩⟩
theorem anyS_perm {L M : List Sc} (h : L.Perm M) (x : ByteArray) : anyS L x = anyS M x := by
  unfold anyS
  rw [Bool.eq_iff_iff, List.any_eq_true, List.any_eq_true]
  exact ⟨fun ⟨y, hy, e⟩ => ⟨y, h.mem_iff.1 hy, e⟩, fun ⟨y, hy, e⟩ => ⟨y, h.mem_iff.2 hy, e⟩⟩
theorem scErr_perm {L M : List Lv} (h : L.Perm M) (s : Sc) : scErr L s = scErr M s := by unfold scErr; rw [anyL_perm h]
/-- In whatever order. -/
theorem Passes.turn {C : Cf} (h : Passes C) {L : List Lv} {S : List Sc} (hL : L.Perm C.levels) (hS : S.Perm C.schemas) : Passes ⟨C.total, C.period, C.perSeat, C.most, L, S⟩ := by
  obtain ⟨f, n, l, s, p⟩ := h
  refine ⟨⟨f.t, f.p, f.s, ?_, ?_, ?_, ?_, ?_, ?_⟩, n, ?_, ?_, ?_⟩
  · show L.length ≤ 16; rw [hL.length_eq]; exact f.nl
  · exact fun x hx => f.lv x (hL.mem_iff.1 hx)
  · exact (hL.pairwise_iff (fun e => Ne.symm e)).2 f.pl
  · show S.length ≤ 32; rw [hS.length_eq]; exact f.ns
  · exact fun x hx => f.sc x (hS.mem_iff.1 hx)
  · exact (hS.pairwise_iff (fun e => Ne.symm e)).2 f.ps
  · exact fun x hx => l x (hL.mem_iff.1 hx)
  · exact fun x hx => (scErr_perm hL x).trans (s x (hS.mem_iff.1 hx))
  · show anyL L _ = true ∧ anyL L _ = true ∧ anyS S _ = true ∧ anyS S _ = true
    rw [anyL_perm hL, anyL_perm hL, anyS_perm hS, anyS_perm hS]
    exact p
theorem passes_turn {C : Cf} {L : List Lv} {S : List Sc} (hL : L.Perm C.levels) (hS : S.Perm C.schemas) : Passes ⟨C.total, C.period, C.perSeat, C.most, L, S⟩ ↔ Passes C :=
  ⟨fun h => h.turn (L := C.levels) (S := C.schemas) hL.symm hS.symm, fun h => h.turn hL hS⟩
end Go.Proofs.YtijjpblmnlednaaGreatDoor
