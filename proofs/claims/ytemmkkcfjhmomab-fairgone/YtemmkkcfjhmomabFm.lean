/-
  The mathematics of lanes that take turns: who is chosen, who is next, what is trimmed. No condition.
-/
import Derived.Test.YtemmkkcfjhmomabFb
namespace Go.Proofs.Ytemmkkcfjhmomab

/-- Seats of a lane. -/
def sW (l : Ln) : Int := seatsTo l.L l.L.length
theorem sW_lo (l : Ln) : 0 ≤ sW l := seatsTo_lo _ _
theorem sW_hi {l : Ln} (h : l.L.length ≤ 1000) : sW l ≤ 16000 := by
  have := seatsTo_hi l.L l.L.length
  unfold sW; omega
/-- The finish of a lane. -/
def fN (g : Int) (l : Ln) : Int := finI l.s l.L g
theorem fN_word {g : Int} {l : Ln} (h : Word l.s) : Word (fN g l) := finI_word h

/-- A number of a lane that is open. -/
abbrev Vld (F : List Ln) (o i : Int) : Prop := 0 ≤ i ∧ i < o ∧ i < F.length
def gi (H : Nat → Int) (k : Nat) : Int := H k
/-- Who is chosen of the first k of the hand. -/
def chF (F : List Ln) (o : Int) (H : Nat → Int) : Nat → Int
  | 0 => -1
  | k + 1 => if Vld F o (H k) ∧ (chF F o H k < 0 ∨ sW (gl F (H k).toNat) < sW (gl F (chF F o H k).toNat)) then H k else chF F o H k
/-- What is said of the one who is chosen of a stretch of the hand. -/
def IsC (F : List Ln) (o : Int) (H : Nat → Int) (lo hi : Nat) (r : Int) : Prop :=
  (r = -1 ∧ ∀ q, lo ≤ q → q < hi → ¬ Vld F o (H q)) ∨
  ∃ p, lo ≤ p ∧ p < hi ∧ r = H p ∧ Vld F o (H p) ∧ ∀ q, lo ≤ q → q < hi → Vld F o (H q) → sW (gl F (H p).toNat) ≤ sW (gl F (H q).toNat) ∧ (q < p → sW (gl F (H p).toNat) < sW (gl F (H q).toNat))
theorem IsC.uniq {F : List Ln} {o : Int} {H : Nat → Int} {lo hi : Nat} {r r' : Int} (h : IsC F o H lo hi r) (h' : IsC F o H lo hi r') : r = r' := by
  rcases h with ⟨rfl, h⟩ | ⟨p, p1, p2, rfl, p3, p4⟩
  · rcases h' with ⟨rfl, -⟩ | ⟨q, q1, q2, -, q3, -⟩
    · rfl
    · exact absurd q3 (h q q1 q2)
  · rcases h' with ⟨rfl, h'⟩ | ⟨q, q1, q2, rfl, q3, q4⟩
    · exact absurd p3 (h' p p1 p2)
    · rcases Nat.lt_trichotomy p q with c | c | c
      · have x := (q4 p p1 p2 p3).2 c
        have y := (p4 q q1 q2 q3).1
        omega
      · rw [c]
      · have x := (p4 q q1 q2 q3).2 c
        have y := (q4 p p1 p2 p3).1
        omega
theorem IsC.rng {F : List Ln} {o : Int} {H : Nat → Int} {lo hi : Nat} {r : Int} (h : IsC F o H lo hi r) : r = -1 ∨ Vld F o r := by
  rcases h with ⟨rfl, -⟩ | ⟨p, -, -, rfl, p3, -⟩
  · exact .inl rfl
  · exact .inr p3
theorem chF_is (F : List Ln) (o : Int) (H : Nat → Int) : ∀ k, IsC F o H 0 k (chF F o H k)
  | 0 => .inl ⟨rfl, fun _ _ h => absurd h (Nat.not_lt_zero _)⟩
  | k + 1 => by
    have ih := chF_is F o H k
    unfold chF
    generalize chF F o H k = c at *
    split
    · rename_i h
      refine .inr ⟨k, Nat.zero_le _, Nat.lt_succ_self k, rfl, h.1, fun q _ hq hv => ?_⟩
      rcases Nat.lt_or_eq_of_le (Nat.le_of_lt_succ hq) with hlt | rfl
      · rcases ih with ⟨rfl, h0⟩ | ⟨p, p1, p2, rfl, p3, p4⟩
        · exact absurd hv (h0 q (Nat.zero_le _) hlt)
        · have x := (p4 q (Nat.zero_le _) hlt hv).1
          have y := h.2
          have z := p3.1
          have : sW (gl F (H k).toNat) < sW (gl F (H p).toNat) := by
            rcases y with y | y
            · omega
            · exact y
          exact ⟨by omega, fun _ => by omega⟩
      · exact ⟨Int.le_refl _, fun e => absurd e (Nat.lt_irrefl _)⟩
    · rename_i h
      rcases ih with ⟨rfl, h0⟩ | ⟨p, p1, p2, rfl, p3, p4⟩
      · refine .inl ⟨rfl, fun q _ hq hv => ?_⟩
        rcases Nat.lt_or_eq_of_le (Nat.le_of_lt_succ hq) with hlt | rfl
        · exact h0 q (Nat.zero_le _) hlt hv
        · exact h ⟨hv, .inl (by decide)⟩
      · refine .inr ⟨p, Nat.zero_le _, by omega, rfl, p3, fun q _ hq hv => ?_⟩
        rcases Nat.lt_or_eq_of_le (Nat.le_of_lt_succ hq) with hlt | rfl
        · exact p4 q (Nat.zero_le _) hlt hv
        · have x : ¬ sW (gl F (H q).toNat) < sW (gl F (H p).toNat) := fun e => h ⟨hv, .inr e⟩
          exact ⟨by omega, fun e => by omega⟩
/-- A step backwards. -/
theorem IsC.back {F : List Ln} {o : Int} {H : Nat → Int} {k hi : Nat} {r : Int} (h : IsC F o H (k + 1) hi r) (hk : k < hi) :
    IsC F o H k hi (if Vld F o (H k) ∧ (r < 0 ∨ sW (gl F (H k).toNat) ≤ sW (gl F r.toNat)) then H k else r) := by
  split
  · rename_i c
    refine .inr ⟨k, Nat.le_refl _, hk, rfl, c.1, fun q hq1 hq2 hv => ?_⟩
    rcases Nat.lt_or_eq_of_le hq1 with hlt | rfl
    · rcases h with ⟨rfl, h0⟩ | ⟨p, p1, p2, rfl, p3, p4⟩
      · exact absurd hv (h0 q hlt hq2)
      · have x := (p4 q hlt hq2 hv).1
        have z := p3.1
        rcases c.2 with y | y
        · omega
        · exact ⟨by omega, fun e => by omega⟩
    · exact ⟨Int.le_refl _, fun e => absurd e (Nat.lt_irrefl _)⟩
  · rename_i c
    rcases h with ⟨rfl, h0⟩ | ⟨p, p1, p2, rfl, p3, p4⟩
    · refine .inl ⟨rfl, fun q hq1 hq2 hv => ?_⟩
      rcases Nat.lt_or_eq_of_le hq1 with hlt | rfl
      · exact h0 q hlt hq2 hv
      · exact c ⟨hv, .inl (by decide)⟩
    · refine .inr ⟨p, by omega, p2, rfl, p3, fun q hq1 hq2 hv => ?_⟩
      rcases Nat.lt_or_eq_of_le hq1 with hlt | rfl
      · exact p4 q hlt hq2 hv
      · have x : ¬ sW (gl F (H k).toNat) ≤ sW (gl F (H p).toNat) := fun e => c ⟨hv, .inr e⟩
        exact ⟨by omega, fun e => by omega⟩

/-- Who is next of the first k lanes. -/
def nxF (F : List Ln) (g : Int) : Nat → Int
  | 0 => -1
  | k + 1 => if (gl F k).L ≠ [] ∧ (nxF F g k < 0 ∨ fN g (gl F k) < fN g (gl F (nxF F g k).toNat)) then k else nxF F g k
def IsN (F : List Ln) (g : Int) (lo hi : Nat) (r : Int) : Prop :=
  (r = -1 ∧ ∀ q, lo ≤ q → q < hi → (gl F q).L = []) ∨
  ∃ p : Nat, lo ≤ p ∧ p < hi ∧ r = p ∧ (gl F p).L ≠ [] ∧ ∀ q, lo ≤ q → q < hi → (gl F q).L ≠ [] → fN g (gl F p) ≤ fN g (gl F q) ∧ (q < p → fN g (gl F p) < fN g (gl F q))
theorem IsN.uniq {F : List Ln} {g : Int} {lo hi : Nat} {r r' : Int} (h : IsN F g lo hi r) (h' : IsN F g lo hi r') : r = r' := by
  rcases h with ⟨rfl, h⟩ | ⟨p, p1, p2, rfl, p3, p4⟩
  · rcases h' with ⟨rfl, -⟩ | ⟨q, q1, q2, -, q3, -⟩
    · rfl
    · exact absurd (h q q1 q2) q3
  · rcases h' with ⟨rfl, h'⟩ | ⟨q, q1, q2, rfl, q3, q4⟩
    · exact absurd (h' p p1 p2) p3
    · rcases Nat.lt_trichotomy p q with c | c | c
      · have x := (q4 p p1 p2 p3).2 c
        have y := (p4 q q1 q2 q3).1
        omega
      · rw [c]
      · have x := (p4 q q1 q2 q3).2 c
        have y := (q4 p p1 p2 p3).1
        omega
theorem IsN.rng {F : List Ln} {g : Int} {lo hi : Nat} {r : Int} (h : IsN F g lo hi r) : r = -1 ∨ ∃ p : Nat, r = p ∧ lo ≤ p ∧ p < hi ∧ (gl F p).L ≠ [] := by
  rcases h with ⟨rfl, -⟩ | ⟨p, p1, p2, rfl, p3, -⟩
  · exact .inl rfl
  · exact .inr ⟨p, rfl, p1, p2, p3⟩
theorem nxF_is (F : List Ln) (g : Int) : ∀ k, IsN F g 0 k (nxF F g k)
  | 0 => .inl ⟨rfl, fun _ _ h => absurd h (Nat.not_lt_zero _)⟩
  | k + 1 => by
    have ih := nxF_is F g k
    unfold nxF
    generalize nxF F g k = c at *
    split
    · rename_i h
      refine .inr ⟨k, Nat.zero_le _, Nat.lt_succ_self k, rfl, h.1, fun q _ hq hv => ?_⟩
      rcases Nat.lt_or_eq_of_le (Nat.le_of_lt_succ hq) with hlt | rfl
      · rcases ih with ⟨rfl, h0⟩ | ⟨p, p1, p2, rfl, p3, p4⟩
        · exact absurd (h0 q (Nat.zero_le _) hlt) hv
        · have x := (p4 q (Nat.zero_le _) hlt hv).1
          rw [Int.toNat_natCast] at h
          rcases h.2 with y | y
          · omega
          · exact ⟨by omega, fun _ => by omega⟩
      · exact ⟨Int.le_refl _, fun e => absurd e (Nat.lt_irrefl _)⟩
    · rename_i h
      rcases ih with ⟨rfl, h0⟩ | ⟨p, p1, p2, rfl, p3, p4⟩
      · refine .inl ⟨rfl, fun q _ hq => ?_⟩
        rcases Nat.lt_or_eq_of_le (Nat.le_of_lt_succ hq) with hlt | rfl
        · exact h0 q (Nat.zero_le _) hlt
        · exact Classical.byContradiction fun hv => h ⟨hv, .inl (by decide)⟩
      · refine .inr ⟨p, Nat.zero_le _, by omega, rfl, p3, fun q _ hq hv => ?_⟩
        rw [Int.toNat_natCast] at h
        rcases Nat.lt_or_eq_of_le (Nat.le_of_lt_succ hq) with hlt | rfl
        · exact p4 q (Nat.zero_le _) hlt hv
        · have x : ¬ fN g (gl F q) < fN g (gl F p) := fun e => h ⟨hv, .inr e⟩
          exact ⟨by omega, fun e => by omega⟩
theorem IsN.back {F : List Ln} {g : Int} {k hi : Nat} {r : Int} (h : IsN F g (k + 1) hi r) (hk : k < hi) :
    IsN F g k hi (if (gl F k).L ≠ [] ∧ ¬ (0 ≤ r ∧ fN g (gl F r.toNat) < fN g (gl F k)) then k else r) := by
  split
  · rename_i c
    refine .inr ⟨k, Nat.le_refl _, hk, rfl, c.1, fun q hq1 hq2 hv => ?_⟩
    rcases Nat.lt_or_eq_of_le hq1 with hlt | rfl
    · rcases h with ⟨rfl, h0⟩ | ⟨p, p1, p2, rfl, p3, p4⟩
      · exact absurd (h0 q hlt hq2) hv
      · have x := (p4 q hlt hq2 hv).1
        rw [Int.toNat_natCast] at c
        have y : ¬ fN g (gl F p) < fN g (gl F k) := fun e => c.2 ⟨by omega, e⟩
        exact ⟨by omega, fun e => by omega⟩
    · exact ⟨Int.le_refl _, fun e => absurd e (Nat.lt_irrefl _)⟩
  · rename_i c
    rcases h with ⟨rfl, h0⟩ | ⟨p, p1, p2, rfl, p3, p4⟩
    · refine .inl ⟨rfl, fun q hq1 hq2 => ?_⟩
      rcases Nat.lt_or_eq_of_le hq1 with hlt | rfl
      · exact h0 q hlt hq2
      · exact Classical.byContradiction fun hv => c ⟨hv, fun e => absurd e.1 (by decide)⟩
    · refine .inr ⟨p, by omega, p2, rfl, p3, fun q hq1 hq2 hv => ?_⟩
      rcases Nat.lt_or_eq_of_le hq1 with hlt | rfl
      · exact p4 q hlt hq2 hv
      · rw [Int.toNat_natCast] at c
        have x : fN g (gl F p) < fN g (gl F k) := Classical.byContradiction fun e => c ⟨hv, fun h => e h.2⟩
        exact ⟨by omega, fun _ => x⟩
/-- Who is next, and whether anybody is. -/
def nxt (F : List Ln) (g : Int) : Int := nxF F g F.length
theorem nxt_is (F : List Ln) (g : Int) : IsN F g 0 F.length (nxt F g) := nxF_is F g _

/-- How many lanes are left by a trim. -/
def trN (F : List Ln) (o : Int) : Nat → Nat
  | 0 => 0
  | n + 1 => if o < (n + 1 : Int) ∧ (gl F n).L = [] then trN F o n else n + 1
theorem trN_le (F : List Ln) (o : Int) : ∀ n, trN F o n ≤ n
  | 0 => Nat.le_refl 0
  | n + 1 => by
    have := trN_le F o n
    unfold trN
    split <;> omega
def trm (F : List Ln) (o : Int) : List Ln := F.take (trN F o F.length)
theorem trm_len (F : List Ln) (o : Int) : (trm F o).length = trN F o F.length := by
  unfold trm; rw [List.length_take]; have := trN_le F o F.length; omega
theorem Few.trm {F : List Ln} (h : Few F) (o : Int) : Few (trm F o) := h.take _

/-- How many wait in the first k lanes; their seats. -/
def wtT (F : List Ln) : Nat → Int
  | 0 => 0
  | k + 1 => wtT F k + (gl F k).L.length
def stT (F : List Ln) : Nat → Int
  | 0 => 0
  | k + 1 => stT F k + sW (gl F k)
theorem wtT_lo (F : List Ln) : ∀ k, 0 ≤ wtT F k
  | 0 => Int.le_refl 0
  | k + 1 => by have := wtT_lo F k; simp only [wtT]; omega
theorem wtT_hi {F : List Ln} (h : Few F) : ∀ k, wtT F k ≤ 1000 * (k : Int)
  | 0 => Int.le_refl 0
  | k + 1 => by have := wtT_hi h k; have := (h.at k).2; simp only [wtT]; omega
theorem stT_lo (F : List Ln) : ∀ k, 0 ≤ stT F k
  | 0 => Int.le_refl 0
  | k + 1 => by have := stT_lo F k; have := sW_lo (gl F k); simp only [stT]; omega
theorem stT_hi {F : List Ln} (h : Few F) : ∀ k, stT F k ≤ 16000 * (k : Int)
  | 0 => Int.le_refl 0
  | k + 1 => by have := stT_hi h k; have := sW_hi (h.at k).2; simp only [stT]; omega

/-- Numbers of no lanes. -/
abbrev Good (o g n : Int) : Prop := (1 ≤ o ∧ o ≤ 64) ∧ (1 ≤ g ∧ g ≤ 1000) ∧ (1 ≤ n ∧ n ≤ 64)
/-- Somebody joins. -/
def jnF (F : List Ln) (k : Nat) (r : Int) (t : Tk) : List Ln := F.set k ⟨jnS (gl F k).s r (gl F k).L, (gl F k).L ++ [t]⟩
/-- Somebody is taken. -/
def tkF (F : List Ln) (k : Nat) (g : Int) : List Ln := F.set k ⟨tkS (gl F k).s (gl F k).L g, (gl F k).L.tail⟩
end Go.Proofs.Ytemmkkcfjhmomab
