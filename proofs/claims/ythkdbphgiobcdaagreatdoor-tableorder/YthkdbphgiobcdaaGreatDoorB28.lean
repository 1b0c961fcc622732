/-
  The mathematics of 'rules.Check': the first error, and what it is of; what is let pass; whatever order levels and schemas stand in. No condition.
  Is a level, a schema of a name there? (The closures of rules.) Condition: what is read lies in memory.
-/
import Derived.Test.YthkdbphgiobcdaaGreatDoorB26
import Derived.Test.YthkdbphgiobcdaaGreatDoorB27
import Derived.Test.YthkdbphgiobcdaaGreatDoorB12
import Derived.Test.YthkdbphgiobcdaaGreatDoorB7
namespace Go.Proofs.YthkdbphgiobcdaaGreatDoor

def lvT (x : ByteArray) : ByteArray := ⟨#[108, 101, 118, 101, 108, 32]⟩ ++ x
def scT (x : ByteArray) : ByteArray := ⟨#[115, 99, 104, 101, 109, 97, 32]⟩ ++ x
def lvFit (l : Lv) : Bool := if l.name = tExempt then l.kind == 1 else if l.name = tCatch then l.kind != 1 && l.shares != 0 else true
def lvErr (l : Lv) : Int := if l.kind = 3 ∧ refH l.queues l.hand ≠ 0 then refH l.queues l.hand else if lvFit l then 0 else 11
def isStar (L : List ByteArray) : Bool := decide (L = [tStar])
def rlAll (r : Rl) : Bool := isStar r.users && (isStar r.verbs && (isStar r.resources && isStar r.spaces))
def scFit (s : Sc) : Bool :=
  if s.name = tExempt then decide (s.level = tExempt) && s.rank == 1
  else if s.name = tCatch then decide (s.level = tCatch) && (s.rank == 10000 && s.rules.any rlAll) else true
def scErr (L : List Lv) (s : Sc) : Int := if anyL L s.level then (if scFit s then 0 else 11) else 6
/-- The first error of levels, of schemas: its number and what it is of. -/
def firstL : List Lv → Int × ByteArray
  | [] => (0, ⟨#[]⟩)
  | l :: r => if lvErr l = 0 then firstL r else (lvErr l, lvT l.name)
def firstS (L : List Lv) : List Sc → Int × ByteArray
  | [] => (0, ⟨#[]⟩)
  | s :: r => if scErr L s = 0 then firstS L r else (scErr L s, scT s.name)
def lackN (C : Cf) : ByteArray := if C.total = 0 then tTotal else if C.period = 0 then tPeriod else if C.perSeat = 0 then tSeats else ⟨#[]⟩
def lackP (C : Cf) : ByteArray :=
  if anyL C.levels tExempt then if anyL C.levels tCatch then if anyS C.schemas tExempt then if anyS C.schemas tCatch then ⟨#[]⟩ else scT tCatch else scT tExempt else lvT tCatch else lvT tExempt
/-- The first error, 0 for none, and what it is of. -/
def chk (C : Cf) : Int × ByteArray :=
  if formed C then
    if lackN C = ⟨#[]⟩ then
      if (firstL C.levels).1 = 0 then
        if (firstS C.levels C.schemas).1 = 0 then
          if lackP C = ⟨#[]⟩ then (0, ⟨#[]⟩) else (12, lackP C)
        else firstS C.levels C.schemas
      else firstL C.levels
    else (12, lackN C)
  else (2, ⟨#[]⟩)

theorem firstL_zero : ∀ {L : List Lv}, (firstL L).1 = 0 ↔ ∀ l ∈ L, lvErr l = 0
  | [] => ⟨fun _ _ h => (by cases h), fun _ => rfl⟩
  | l :: r => by
    unfold firstL
    by_cases h : lvErr l = 0
    · rw [if_pos h, firstL_zero (L := r)]
      exact ⟨fun k x hx => (List.mem_cons.1 hx).elim (fun e => e ▸ h) (fun q => k x q), fun k x hx => k x (List.mem_cons_of_mem _ hx)⟩
    · rw [if_neg h]
      exact ⟨fun k => absurd k h, fun k => k l (List.mem_cons_self ..)⟩
theorem firstS_zero {M : List Lv} : ∀ {L : List Sc}, (firstS M L).1 = 0 ↔ ∀ l ∈ L, scErr M l = 0
  | [] => ⟨fun _ _ h => (by cases h), fun _ => rfl⟩
  | l :: r => by
    unfold firstS
    by_cases h : scErr M l = 0
    · rw [if_pos h, firstS_zero (L := r)]
      exact ⟨fun k x hx => (List.mem_cons.1 hx).elim (fun e => e ▸ h) (fun q => k x q), fun k x hx => k x (List.mem_cons_of_mem _ hx)⟩
    · rw [if_neg h]
      exact ⟨fun k => absurd k h, fun k => k l (List.mem_cons_self ..)⟩
theorem text_ne (s x : ByteArray) (h : 0 < s.size) : s ++ x ≠ ⟨#[]⟩ := fun e => by
  have := congrArg ByteArray.size e
  rw [cat_size] at this
  have z : (⟨#[]⟩ : ByteArray).size = 0 := rfl
  omega
theorem lvT_ne (x : ByteArray) : lvT x ≠ ⟨#[]⟩ := text_ne _ _ (by decide)
theorem scT_ne (x : ByteArray) : scT x ≠ ⟨#[]⟩ := text_ne _ _ (by decide)
theorem lackN_zero {C : Cf} : lackN C = ⟨#[]⟩ ↔ C.total ≠ 0 ∧ C.period ≠ 0 ∧ C.perSeat ≠ 0 := by
  unfold lackN
  by_cases h1 : C.total = 0
  · rw [if_pos h1]; exact ⟨fun e => absurd e (by decide), fun e => absurd h1 e.1⟩
  · rw [if_neg h1]
    by_cases h2 : C.period = 0
    · rw [if_pos h2]; exact ⟨fun e => absurd e (by decide), fun e => absurd h2 e.2.1⟩
    · rw [if_neg h2]
      by_cases h3 : C.perSeat = 0
      · rw [if_pos h3]; exact ⟨fun e => absurd e (by decide), fun e => absurd h3 e.2.2⟩
      · rw [if_neg h3]; exact ⟨fun _ => ⟨h1, h2, h3⟩, fun _ => rfl⟩
theorem lackP_zero {C : Cf} : lackP C = ⟨#[]⟩ ↔ anyL C.levels tExempt = true ∧ anyL C.levels tCatch = true ∧ anyS C.schemas tExempt = true ∧ anyS C.schemas tCatch = true := by
  unfold lackP
  cases anyL C.levels tExempt <;> cases anyL C.levels tCatch <;> cases anyS C.schemas tExempt <;> cases anyS C.schemas tCatch <;> simp [lvT_ne, scT_ne]

/-- What is let pass. -/
structure Passes (C : Cf) : Prop where
  f : Formed C
  n : C.total ≠ 0 ∧ C.period ≠ 0 ∧ C.perSeat ≠ 0
  l : ∀ l ∈ C.levels, lvErr l = 0
  s : ∀ s ∈ C.schemas, scErr C.levels s = 0
  p : anyL C.levels tExempt = true ∧ anyL C.levels tCatch = true ∧ anyS C.schemas tExempt = true ∧ anyS C.schemas tCatch = true

theorem chk_zero {C : Cf} : (chk C).1 = 0 ↔ Passes C := by
  unfold chk
  by_cases h0 : formed C = true
  · rw [if_pos h0]
    by_cases h1 : lackN C = ⟨#[]⟩
    · rw [if_pos h1]
      by_cases h2 : (firstL C.levels).1 = 0
      · rw [if_pos h2]
        by_cases h3 : (firstS C.levels C.schemas).1 = 0
        · rw [if_pos h3]
          by_cases h4 : lackP C = ⟨#[]⟩
          · rw [if_pos h4]
            exact ⟨fun _ => ⟨formed_iff.1 h0, lackN_zero.1 h1, firstL_zero.1 h2, firstS_zero.1 h3, lackP_zero.1 h4⟩, fun _ => rfl⟩
          · rw [if_neg h4]; exact ⟨fun e => absurd (show (12 : Int) = 0 from e) (by decide), fun e => absurd (lackP_zero.2 e.p) h4⟩
        · rw [if_neg h3]; exact ⟨fun e => absurd e h3, fun e => absurd (firstS_zero.2 e.s) h3⟩
      · rw [if_neg h2]; exact ⟨fun e => absurd e h2, fun e => absurd (firstL_zero.2 e.l) h2⟩
    · rw [if_neg h1]; exact ⟨fun e => absurd (show (12 : Int) = 0 from e) (by decide), fun e => absurd (lackN_zero.2 e.n) h1⟩
  · rw [if_neg h0]; exact ⟨fun e => absurd (show (2 : Int) = 0 from e) (by decide), fun e => absurd (formed_iff.2 e.f) h0⟩

theorem anyL_perm {L M : List Lv} (h : L.Perm M) (x : ByteArray) : anyL L x = anyL M x := by
  unfold anyL
  rw [Bool.eq_iff_iff, List.any_eq_true, List.any_eq_true]
  exact ⟨fun ⟨y, hy, e⟩ => ⟨y, h.mem_iff.1 hy, e⟩, fun ⟨y, hy, e⟩ => ⟨y, h.mem_iff.2 hy, e⟩⟩
theorem anyS_perm {L M : List Sc} (h : L.Perm M) (x : ByteArray) : anyS L x = anyS M x := by
  unfold anyS
  rw [Bool.eq_iff_iff, List.any_eq_true, List.any_eq_true]
  exact ⟨fun ⟨y, hy, e⟩ => ⟨y, h.mem_iff.1 hy, e⟩, fun ⟨y, hy, e⟩ => ⟨y, h.mem_iff.2 hy, e⟩⟩
theorem scErr_perm {L M : List Lv} (h : L.Perm M) (s : Sc) : scErr L s = scErr M s := by unfold scErr; rw [anyL_perm h]
/-- In whatever order. -/
theorem Passes.turn {C : Cf} (h : Passes C) {L : List Lv} {S : List Sc} (hL : L.Perm C.levels) (hS : S.Perm C.schemas) : Passes ⟨C.total, C.period, C.perSeat, C.most, L, S⟩ := by
  obtain ⟨f, n, l, s, p⟩ := h
  refine ⟨⟨f.t, f.p, f.s, ?_, ?_, ?_, ?_, ?_, ?_⟩, n, ?_, ?_, ?_⟩
  · show L.length ≤ 16; rw [hL.length_eq]; exact f.nl
  · exact fun x hx => f.lv x (hL.mem_iff.1 hx)
  · exact (hL.pairwise_iff (fun e => Ne.symm e)).2 f.pl
  · show S.length ≤ 32; rw [hS.length_eq]; exact f.ns
  · exact fun x hx => f.sc x (hS.mem_iff.1 hx)
  · exact (hS.pairwise_iff (fun e => Ne.symm e)).2 f.ps
  · exact fun x hx => l x (hL.mem_iff.1 hx)
  · exact fun x hx => (scErr_perm hL x).trans (s x (hS.mem_iff.1 hx))
  · show anyL L _ = true ∧ anyL L _ = true ∧ anyS S _ = true ∧ anyS S _ = true
    rw [anyL_perm hL, anyL_perm hL, anyS_perm hS, anyS_perm hS]
    exact p
theorem passes_turn {C : Cf} {L : List Lv} {S : List Sc} (hL : L.Perm C.levels) (hS : S.Perm C.schemas) : Passes ⟨C.total, C.period, C.perSeat, C.most, L, S⟩ ↔ Passes C :=
  ⟨fun h => h.turn (L := C.levels) (S := C.schemas) hL.symm hS.symm, fun h => h.turn hL hS⟩

end Go.Proofs.YthkdbphgiobcdaaGreatDoor

namespace Go.Proofs.YthkdbphgiobcdaaGreatDoor
open Go.RowKit

theorem pisLv_okR (l : Lv) (g : Nat) (x : ByteArray) (w : World) (hg : w.cell? ⟨g, 0, none⟩ = some (.string x)) :
    Calls Tryz.prog 137 #[lvV l, .pointer (some ⟨g, 0, none⟩)] w fun r w' => r = .returned (.bool (decide (l.name = x))) ∧ Below w.heap.size w w' := by
  have hlt : g < w.heap.size := by
    rcases Nat.lt_or_ge g w.heap.size with h1 | h1
    · exact h1
    · simp [World.cell?, Array.getElem?_eq_none h1] at hg
  rw [← name_eq]
  obtain ⟨n, a1, a2, a3, a4, a5, a6, a7, a8, a9⟩ := l
  have b1 : Below w.heap.size w (w.alloc (.cells #[.string n, .int .i64 a1, .int .i64 a2, .int .i64 a3, .int .i64 a4, .int .i64 a5, .int .i64 a6, .int .i64 a7, .int .i64 a8, .int .i64 a9] 43)) := (Below.refl _ _).alloc (Nat.le_refl _) _
  have y1 : (w.alloc (.cells #[.string n, .int .i64 a1, .int .i64 a2, .int .i64 a3, .int .i64 a4, .int .i64 a5, .int .i64 a6, .int .i64 a7, .int .i64 a8, .int .i64 a9] 43)).cell? ⟨g, 0, none⟩ = some (.string x) := (b1.cell (p := ⟨g, 0, none⟩) hlt).trans hg
  have BB : Hd (Below w.heap.size w (w.alloc (.cells #[.string n, .int .i64 a1, .int .i64 a2, .int .i64 a3, .int .i64 a4, .int .i64 a5, .int .i64 a6, .int .i64 a7, .int .i64 a8, .int .i64 a9] 43))) := ⟨b1⟩
  clear hg b1
  unfold lvV
  go_enter Tryz.func137, Tryz.ntmps137
  go_wp2_with fail
  go_ret
  exact ⟨rfl, BB.out⟩

theorem pisSc_okR (l : Sc) (v : Value) (g : Nat) (x : ByteArray) (w : World) (hg : w.cell? ⟨g, 0, none⟩ = some (.string x)) :
    Calls Tryz.prog 139 #[scV l v, .pointer (some ⟨g, 0, none⟩)] w fun r w' => r = .returned (.bool (decide (l.name = x))) ∧ Below w.heap.size w w' := by
  have hlt : g < w.heap.size := by
    rcases Nat.lt_or_ge g w.heap.size with h1 | h1
    · exact h1
    · simp [World.cell?, Array.getElem?_eq_none h1] at hg
  rw [← name_eq]
  obtain ⟨n, a1, a2, a3, a4⟩ := l
  have b1 : Below w.heap.size w (w.alloc (.cells #[.string n, .string a1, .int .i64 a2, .int .i64 a3, v] 47)) := (Below.refl _ _).alloc (Nat.le_refl _) _
  have y1 : (w.alloc (.cells #[.string n, .string a1, .int .i64 a2, .int .i64 a3, v] 47)).cell? ⟨g, 0, none⟩ = some (.string x) := (b1.cell (p := ⟨g, 0, none⟩) hlt).trans hg
  have BB : Hd (Below w.heap.size w (w.alloc (.cells #[.string n, .string a1, .int .i64 a2, .int .i64 a3, v] 47))) := ⟨b1⟩
  clear hg b1
  unfold scV
  go_enter Tryz.func139, Tryz.ntmps139
  go_wp2_with fail
  go_ret
  exact ⟨rfl, BB.out⟩

theorem pindexLvR (L : List Lv) (g r ro cap : Nat) (x : ByteArray) (w : World) (hg : w.cell? ⟨g, 0, none⟩ = some (.string x)) (hr : r < w.heap.size) (hl : L.length ≤ 65536)
    (hcs : ∀ k (h : k < L.length), ∀ j, j < 10 → w.cell? ⟨r, ro + k * 10 + j, none⟩ = (lvC L[k])[j]?) :
    Calls Tryz.prog 37 #[.slice (some ⟨r, ro, none⟩) L.length cap, .func (.func 137) #[] #[.pointer (some ⟨g, 0, none⟩)]] w fun e w' => (∃ q : Int, e = .returned (.int .i64 q) ∧ decide (0 ≤ q) = L.any fun l => decide (l.name = x)) ∧ Below w.heap.size w w' := by
  have hlt : g < w.heap.size := by
    rcases Nat.lt_or_ge g w.heap.size with h1 | h1
    · exact h1
    · simp [World.cell?, Array.getElem?_eq_none h1] at hg
  have eg : ∀ args w, (callFunc 137 args).run Tryz.prog w = .ok (.enter 137 args) w := enters_of Tryz.func137 (by kernel_rfl) rfl
  have HC : Hd (∀ k (h : k < L.length), ∀ j, j < 10 → w.cell? ⟨r, ro + k * 10 + j, none⟩ = (lvC L[k])[j]?) := ⟨hcs⟩
  clear hcs
  go_enter Tryz.func37, Tryz.ntmps37
  go_wp2_with fail
  go_loopw [8] (fun i wr => ∃ k : Nat, k ≤ L.length ∧ i = .int .i64 k ∧ Hd (∀ j (h : j < L.length), j < k → L[j].name ≠ x) ∧ Below w.heap.size w wr) (fun i _ => L.length - (intOf i).toNat)
  case atStart => exact ⟨0, Nat.zero_le _, rfl, ⟨fun j _ h => absurd h (Nat.not_lt_zero _)⟩, Below.refl _ _⟩
  case round =>
    obtain ⟨k, hk, rfl, hno, hb⟩ := hrel
    by_cases hlt' : k < L.length
    · have hcs := HC.out
      have hlt := hlt'
      have HI : Hd (k < L.length) := ⟨hlt⟩
      have cs : ∀ j, j < 10 → wr.cell? ⟨r, ro + k * 10 + j, none⟩ = (lvC L[k])[j]? := fun j hj => (hb.cell (p := ⟨r, ro + k * 10 + j, none⟩) hr).trans (hcs k hlt j hj)
      have I := pisLv_okR L[k] g x wr ((hb.cell (p := ⟨g, 0, none⟩) (by omega)).trans hg)
      have BB : Hd (Below w.heap.size w wr) := ⟨hb⟩
      have hgl : Hd (g < w.heap.size) := ⟨by omega⟩
      by_cases hx : L[k].name = x
      · have A : Hd ((L.any fun l => decide (l.name = x)) = true) := ⟨List.any_eq_true.2 ⟨L[k], List.getElem_mem hlt, decide_eq_true hx⟩⟩
        rw [decide_eq_true hx] at I
        clear hcs hb hno hx hg
        have x0 : wr.cell? ⟨r, ro + k * 10, none⟩ = some (.string L[k].name) := cs 0 (by decide)
        have x1 : wr.cell? ⟨r, ro + k * 10 + 1, none⟩ = some (.int .i64 L[k].kind) := cs 1 (by decide)
        have x2 : wr.cell? ⟨r, ro + k * 10 + 2, none⟩ = some (.int .i64 L[k].shares) := cs 2 (by decide)
        have x3 : wr.cell? ⟨r, ro + k * 10 + 3, none⟩ = some (.int .i64 L[k].lend) := cs 3 (by decide)
        have x4 : wr.cell? ⟨r, ro + k * 10 + 4, none⟩ = some (.int .i64 L[k].borrow) := cs 4 (by decide)
        have x5 : wr.cell? ⟨r, ro + k * 10 + 5, none⟩ = some (.int .i64 L[k].queues) := cs 5 (by decide)
        have x6 : wr.cell? ⟨r, ro + k * 10 + 6, none⟩ = some (.int .i64 L[k].hand) := cs 6 (by decide)
        have x7 : wr.cell? ⟨r, ro + k * 10 + 7, none⟩ = some (.int .i64 L[k].length) := cs 7 (by decide)
        have x8 : wr.cell? ⟨r, ro + k * 10 + 8, none⟩ = some (.int .i64 L[k].wait) := cs 8 (by decide)
        have x9 : wr.cell? ⟨r, ro + k * 10 + 9, none⟩ = some (.int .i64 L[k].guess) := cs 9 (by decide)
        clear cs
        unfold lvV at I
        generalize L[k] = l at *
        obtain ⟨n, a1, a2, a3, a4, a5, a6, a7, a8, a9⟩ := l
        go_wp2_with (go_at_fn 137; refine I.mono ?_; rintro e w2 ⟨rfl, h2⟩)
        go_ret
        exact ⟨⟨k, rfl, by rw [A.out]; exact decide_eq_true (by omega)⟩, BB.out.trans (h2.mono BB.out.size)⟩
      · have A : Hd (∀ j (h : j < L.length), j < k + 1 → L[j].name ≠ x) := ⟨fun j hj hjk => by
          rcases Nat.lt_or_eq_of_le (Nat.le_of_lt_succ hjk) with h | h
          · exact hno.out j hj h
          · subst h; exact hx⟩
        rw [decide_eq_false hx] at I
        clear hcs hb hno hx hg
        have x0 : wr.cell? ⟨r, ro + k * 10, none⟩ = some (.string L[k].name) := cs 0 (by decide)
        have x1 : wr.cell? ⟨r, ro + k * 10 + 1, none⟩ = some (.int .i64 L[k].kind) := cs 1 (by decide)
        have x2 : wr.cell? ⟨r, ro + k * 10 + 2, none⟩ = some (.int .i64 L[k].shares) := cs 2 (by decide)
        have x3 : wr.cell? ⟨r, ro + k * 10 + 3, none⟩ = some (.int .i64 L[k].lend) := cs 3 (by decide)
        have x4 : wr.cell? ⟨r, ro + k * 10 + 4, none⟩ = some (.int .i64 L[k].borrow) := cs 4 (by decide)
        have x5 : wr.cell? ⟨r, ro + k * 10 + 5, none⟩ = some (.int .i64 L[k].queues) := cs 5 (by decide)
        have x6 : wr.cell? ⟨r, ro + k * 10 + 6, none⟩ = some (.int .i64 L[k].hand) := cs 6 (by decide)
        have x7 : wr.cell? ⟨r, ro + k * 10 + 7, none⟩ = some (.int .i64 L[k].length) := cs 7 (by decide)
        have x8 : wr.cell? ⟨r, ro + k * 10 + 8, none⟩ = some (.int .i64 L[k].wait) := cs 8 (by decide)
        have x9 : wr.cell? ⟨r, ro + k * 10 + 9, none⟩ = some (.int .i64 L[k].guess) := cs 9 (by decide)
        clear cs
        unfold lvV at I
        generalize L[k] = l at *
        obtain ⟨n, a1, a2, a3, a4, a5, a6, a7, a8, a9⟩ := l
        go_wp2_with (go_at_fn 137; refine I.mono ?_; rintro e w2 ⟨rfl, h2⟩)
        go_roundw
        case rel => exact ⟨k + 1, HI.out, by go_num, A, BB.out.trans (h2.mono BB.out.size)⟩
        case measure => have := HI.out; simp [intOf]; omega
    · obtain rfl : k = L.length := by omega
      have A : Hd ((L.any fun l => decide (l.name = x)) = false) := ⟨by
        rw [List.any_eq_false]
        intro l hl'
        obtain ⟨j, hj, rfl⟩ := List.getElem_of_mem hl'
        simpa using hno.out j hj hj⟩
      clear hno hg
      go_wp2_with fail
      go_ret
      exact ⟨⟨-1, rfl, by rw [A.out]; decide⟩, hb⟩

theorem pindexScR (L : List Sc) (V : List Value) (hV : V.length = L.length) (g r ro cap : Nat) (x : ByteArray) (w : World) (hg : w.cell? ⟨g, 0, none⟩ = some (.string x)) (hr : r < w.heap.size) (hl : L.length ≤ 65536)
    (hcs : ∀ k (h : k < L.length) (h' : k < V.length), ∀ j, j < 5 → w.cell? ⟨r, ro + k * 5 + j, none⟩ = (scC L[k] V[k])[j]?) :
    Calls Tryz.prog 160 #[.slice (some ⟨r, ro, none⟩) L.length cap, .func (.func 139) #[] #[.pointer (some ⟨g, 0, none⟩)]] w fun e w' => (∃ q : Int, e = .returned (.int .i64 q) ∧ decide (0 ≤ q) = L.any fun l => decide (l.name = x)) ∧ Below w.heap.size w w' := by
  have hlt : g < w.heap.size := by
    rcases Nat.lt_or_ge g w.heap.size with h1 | h1
    · exact h1
    · simp [World.cell?, Array.getElem?_eq_none h1] at hg
  have eg : ∀ args w, (callFunc 139 args).run Tryz.prog w = .ok (.enter 139 args) w := enters_of Tryz.func139 (by kernel_rfl) rfl
  have HC : Hd (∀ k (h : k < L.length) (h' : k < V.length), ∀ j, j < 5 → w.cell? ⟨r, ro + k * 5 + j, none⟩ = (scC L[k] V[k])[j]?) := ⟨hcs⟩
  clear hcs
  go_enter Tryz.func160, Tryz.ntmps160
  go_wp2_with fail
  go_loopw [8] (fun i wr => ∃ k : Nat, k ≤ L.length ∧ i = .int .i64 k ∧ Hd (∀ j (h : j < L.length), j < k → L[j].name ≠ x) ∧ Below w.heap.size w wr) (fun i _ => L.length - (intOf i).toNat)
  case atStart => exact ⟨0, Nat.zero_le _, rfl, ⟨fun j _ h => absurd h (Nat.not_lt_zero _)⟩, Below.refl _ _⟩
  case round =>
    obtain ⟨k, hk, rfl, hno, hb⟩ := hrel
    by_cases hlt' : k < L.length
    · have hcs := HC.out
      have hlt := hlt'
      have HI : Hd (k < L.length) := ⟨hlt⟩
      have hkV : k < V.length := by omega
      have cs : ∀ j, j < 5 → wr.cell? ⟨r, ro + k * 5 + j, none⟩ = (scC L[k] V[k])[j]? := fun j hj => (hb.cell (p := ⟨r, ro + k * 5 + j, none⟩) hr).trans (hcs k hlt (by omega) j hj)
      have I := pisSc_okR L[k] V[k] g x wr ((hb.cell (p := ⟨g, 0, none⟩) (by omega)).trans hg)
      have BB : Hd (Below w.heap.size w wr) := ⟨hb⟩
      have hgl : Hd (g < w.heap.size) := ⟨by omega⟩
      by_cases hx : L[k].name = x
      · have A : Hd ((L.any fun l => decide (l.name = x)) = true) := ⟨List.any_eq_true.2 ⟨L[k], List.getElem_mem hlt, decide_eq_true hx⟩⟩
        rw [decide_eq_true hx] at I
        clear hcs hb hno hx hg
        have x0 : wr.cell? ⟨r, ro + k * 5, none⟩ = some (.string L[k].name) := cs 0 (by decide)
        have x1 : wr.cell? ⟨r, ro + k * 5 + 1, none⟩ = some (.string L[k].level) := cs 1 (by decide)
        have x2 : wr.cell? ⟨r, ro + k * 5 + 2, none⟩ = some (.int .i64 L[k].rank) := cs 2 (by decide)
        have x3 : wr.cell? ⟨r, ro + k * 5 + 3, none⟩ = some (.int .i64 L[k].way) := cs 3 (by decide)
        have x4 : wr.cell? ⟨r, ro + k * 5 + 4, none⟩ = some (V[k]) := cs 4 (by decide)
        clear cs
        unfold scV at I
        generalize V[k] = vv at *
        generalize L[k] = l at *
        obtain ⟨n, a1, a2, a3, a4⟩ := l
        go_wp2_with (go_at_fn 139; refine I.mono ?_; rintro e w2 ⟨rfl, h2⟩)
        go_ret
        exact ⟨⟨k, rfl, by rw [A.out]; exact decide_eq_true (by omega)⟩, BB.out.trans (h2.mono BB.out.size)⟩
      · have A : Hd (∀ j (h : j < L.length), j < k + 1 → L[j].name ≠ x) := ⟨fun j hj hjk => by
          rcases Nat.lt_or_eq_of_le (Nat.le_of_lt_succ hjk) with h | h
          · exact hno.out j hj h
          · subst h; exact hx⟩
        rw [decide_eq_false hx] at I
        clear hcs hb hno hx hg
        have x0 : wr.cell? ⟨r, ro + k * 5, none⟩ = some (.string L[k].name) := cs 0 (by decide)
        have x1 : wr.cell? ⟨r, ro + k * 5 + 1, none⟩ = some (.string L[k].level) := cs 1 (by decide)
        have x2 : wr.cell? ⟨r, ro + k * 5 + 2, none⟩ = some (.int .i64 L[k].rank) := cs 2 (by decide)
        have x3 : wr.cell? ⟨r, ro + k * 5 + 3, none⟩ = some (.int .i64 L[k].way) := cs 3 (by decide)
        have x4 : wr.cell? ⟨r, ro + k * 5 + 4, none⟩ = some (V[k]) := cs 4 (by decide)
        clear cs
        unfold scV at I
        generalize V[k] = vv at *
        generalize L[k] = l at *
        obtain ⟨n, a1, a2, a3, a4⟩ := l
        go_wp2_with (go_at_fn 139; refine I.mono ?_; rintro e w2 ⟨rfl, h2⟩)
        go_roundw
        case rel => exact ⟨k + 1, HI.out, by go_num, A, BB.out.trans (h2.mono BB.out.size)⟩
        case measure => have := HI.out; simp [intOf]; omega
    · obtain rfl : k = L.length := by omega
      have A : Hd ((L.any fun l => decide (l.name = x)) = false) := ⟨by
        rw [List.any_eq_false]
        intro l hl'
        obtain ⟨j, hj, rfl⟩ := List.getElem_of_mem hl'
        simpa using hno.out j hj hj⟩
      clear hno hg
      go_wp2_with fail
      go_ret
      exact ⟨⟨-1, rfl, by rw [A.out]; decide⟩, hb⟩

theorem phasLvR (a : Option Addr) (c : Nat) (L : List Lv) (g : Nat) (x : ByteArray) (w : World) (hg : w.cell? ⟨g, 0, none⟩ = some (.string x)) (hr : LvR w a L) (hl : L.length ≤ 65536) :
    Calls Tryz.prog 126 #[.slice a L.length c, .func (.func 137) #[] #[.pointer (some ⟨g, 0, none⟩)]] w fun e w' => e = .returned (.bool (L.any fun l => decide (l.name = x))) ∧ Below w.heap.size w w' := by
  cases L with
  | nil =>
    have I : Calls Tryz.prog 37 #[.slice a 0 c, .func (.func 137) #[] #[.pointer (some ⟨g, 0, none⟩)]] w fun e w' => e = .returned (.int .i64 (-1)) ∧ w' = w := by
      clear hg hr hl
      go_enter Tryz.func37, Tryz.ntmps37
      go_wp2_with fail
      refine wp_loop_rounds 1 ?_
      rw [rounds_succ]
      go_wp2_with fail
      go_ret
      exact ⟨rfl, rfl⟩
    clear hg hr hl
    show Calls Tryz.prog 126 #[.slice a 0 c, .func (.func 137) #[] #[.pointer (some ⟨g, 0, none⟩)]] w _
    go_enter Tryz.func126, Tryz.ntmps126
    go_wp2_with (go_at_call 37; refine I.mono ?_; rintro e w' ⟨rfl, hw⟩; obtain rfl := hw.symm)
    go_ret
    exact ⟨rfl, Below.refl _ _⟩
  | cons l0 L0 =>
    obtain ⟨r, ro, rfl, hb, hcs⟩ := hr (by simp)
    have I := pindexLvR (l0 :: L0) g r ro c x w hg hb hl hcs
    clear hg hcs hr hb
    generalize ((l0 :: L0).any fun l => decide (l.name = x)) = b at *
    generalize (l0 :: L0).length = m at *
    go_enter Tryz.func126, Tryz.ntmps126
    go_wp2_with (go_at_call 37; refine I.mono ?_; rintro e w' ⟨⟨q, rfl, hq⟩, hb⟩)
    go_ret
    exact ⟨by rw [← hq]; rfl, hb⟩
theorem phasScR (a : Option Addr) (c : Nat) (L : List Sc) (V : List Value) (g : Nat) (x : ByteArray) (w : World) (hg : w.cell? ⟨g, 0, none⟩ = some (.string x)) (hr : ScR w a L V) (hV : V.length = L.length) (hl : L.length ≤ 65536) :
    Calls Tryz.prog 130 #[.slice a L.length c, .func (.func 139) #[] #[.pointer (some ⟨g, 0, none⟩)]] w fun e w' => e = .returned (.bool (L.any fun l => decide (l.name = x))) ∧ Below w.heap.size w w' := by
  cases L with
  | nil =>
    have I : Calls Tryz.prog 160 #[.slice a 0 c, .func (.func 139) #[] #[.pointer (some ⟨g, 0, none⟩)]] w fun e w' => e = .returned (.int .i64 (-1)) ∧ w' = w := by
      clear hg hr hl hV
      go_enter Tryz.func160, Tryz.ntmps160
      go_wp2_with fail
      refine wp_loop_rounds 1 ?_
      rw [rounds_succ]
      go_wp2_with fail
      go_ret
      exact ⟨rfl, rfl⟩
    clear hg hr hl hV
    show Calls Tryz.prog 130 #[.slice a 0 c, .func (.func 139) #[] #[.pointer (some ⟨g, 0, none⟩)]] w _
    go_enter Tryz.func130, Tryz.ntmps130
    go_wp2_with (go_at_call 160; refine I.mono ?_; rintro e w' ⟨rfl, hw⟩; obtain rfl := hw.symm)
    go_ret
    exact ⟨rfl, Below.refl _ _⟩
  | cons l0 L0 =>
    obtain ⟨r, ro, rfl, hb, hcs⟩ := hr (by simp)
    have I := pindexScR (l0 :: L0) V hV g r ro c x w hg hb hl hcs
    clear hg hcs hr hb hV
    generalize ((l0 :: L0).any fun l => decide (l.name = x)) = b at *
    generalize (l0 :: L0).length = m at *
    go_enter Tryz.func130, Tryz.ntmps130
    go_wp2_with (go_at_call 160; refine I.mono ?_; rintro e w' ⟨⟨q, rfl, hq⟩, hb⟩)
    go_ret
    exact ⟨by rw [← hq]; rfl, hb⟩
end Go.Proofs.YthkdbphgiobcdaaGreatDoor
