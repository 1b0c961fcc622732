/-
  Plain mathematics of a heap with a gap: items f 0 .. f (n - 1), none of which goes ahead of the one above it, but at the gap; where each one stands, by its id; what comes of moving the gap up and down; lists in order.
-/
import Derived.Test.YthamaiibknmeeaaWalkA
namespace Go.Proofs.Ythamaiibknmeeaa

theorem lt_irrefl (x : Int × Int) : ¬ lt x x := by unfold lt; omega
theorem lt_asymm {x y : Int × Int} (h : lt x y) : ¬ lt y x := by unfold lt at *; omega
theorem lt_trans {x y z : Int × Int} (h : lt x y) (k : lt y z) : lt x z := by unfold lt at *; omega
theorem ge_trans {x y z : Int × Int} (h : ¬ lt z y) (k : ¬ lt y x) : ¬ lt z x := by unfold lt at *; omega
theorem lt_total {x y : Int × Int} (h : ¬ lt x y) (k : ¬ lt y x) : x = y := by
  unfold lt at *
  exact Prod.ext (by omega) (by omega)
theorem lt_of_ne {x y : Int × Int} (h : ¬ lt y x) (k : x.2 ≠ y.2) : lt x y := by unfold lt at *; omega

/-- f, but x at i. -/
def upd {α : Type} (f : Nat → α) (i : Nat) (x : α) : Nat → α := fun j => if j = i then x else f j
theorem upd_same {α : Type} (f : Nat → α) (i : Nat) (x : α) : upd f i x i = x := if_pos rfl
theorem upd_other {α : Type} {f : Nat → α} {i j : Nat} {x : α} (h : j ≠ i) : upd f i x j = f j := if_neg h
/-- pos, but p at id. -/
def updp (pos : Int → Option Nat) (id : Int) (p : Option Nat) : Int → Option Nat := fun j => if j = id then p else pos j
theorem updp_same (pos : Int → Option Nat) (id : Int) (p : Option Nat) : updp pos id p id = p := if_pos rfl
theorem updp_other {pos : Int → Option Nat} {id j : Int} {p : Option Nat} (h : j ≠ id) : updp pos id p j = pos j := if_neg h

/-- The items f 0 .. f (n - 1) are a heap, are what M says, and stand where pos says. -/
structure HeapOK (f : Nat → Int × Int) (n : Nat) (M : Int × Int → Prop) (pos : Int → Option Nat) : Prop where
  order : ∀ j, 0 < j → j < n → ¬ lt (f j) (f ((j - 1) / 2))
  mem : ∀ y, M y ↔ ∃ j, j < n ∧ f j = y
  at_ : ∀ id p, pos id = some p ↔ p < n ∧ (f p).2 = id

/-- The same, but for a gap at i, where x is to come. -/
structure Gap (f : Nat → Int × Int) (n i : Nat) (x : Int × Int) (M : Int × Int → Prop) (pos : Int → Option Nat) : Prop where
  inn : i < n
  order : ∀ j, 0 < j → j < n → j ≠ i → (j - 1) / 2 ≠ i → ¬ lt (f j) (f ((j - 1) / 2))
  over : ∀ j, 0 < j → j < n → (j - 1) / 2 = i → 0 < i → ¬ lt (f j) (f ((i - 1) / 2))
  mem : ∀ y, M y ↔ ∃ j, j < n ∧ j ≠ i ∧ f j = y
  at_ : ∀ id, id ≠ x.2 → ∀ p, pos id = some p ↔ p < n ∧ p ≠ i ∧ (f p).2 = id

section
variable {f : Nat → Int × Int} {n i : Nat} {x : Int × Int} {M : Int × Int → Prop} {pos : Int → Option Nat}

theorem Gap.mem_move (h : Gap f n i x M pos) {a : Nat} (ha : a < n) (hne : a ≠ i) (y : Int × Int) : M y ↔ ∃ j, j < n ∧ j ≠ a ∧ upd f i (f a) j = y := by
  rw [h.mem y]
  constructor
  · rintro ⟨j, h1, h2, h3⟩
    by_cases c : j = a
    · subst c
      exact ⟨i, h.inn, fun e => hne e.symm, by rw [upd_same]; exact h3⟩
    · exact ⟨j, h1, c, by rw [upd_other h2]; exact h3⟩
  · rintro ⟨j, h1, h2, h3⟩
    by_cases c : j = i
    · subst c
      rw [upd_same] at h3
      exact ⟨a, ha, hne, h3⟩
    · rw [upd_other c] at h3
      exact ⟨j, h1, c, h3⟩

theorem Gap.at_move (h : Gap f n i x M pos) {a : Nat} (ha : a < n) (hne : a ≠ i) (id : Int) (hid : id ≠ x.2) (p : Nat) :
    updp pos (f a).2 (some i) id = some p ↔ p < n ∧ p ≠ a ∧ (upd f i (f a) p).2 = id := by
  have hi := h.inn
  by_cases c : id = (f a).2
  · subst c
    rw [updp_same]
    constructor
    · intro e
      cases e
      exact ⟨hi, fun e => hne e.symm, by rw [upd_same]⟩
    · rintro ⟨h1, h2, h3⟩
      by_cases c : p = i
      · rw [c]
      · rw [upd_other c] at h3
        have e1 := (h.at_ _ hid p).2 ⟨h1, c, h3⟩
        have e2 := (h.at_ _ hid a).2 ⟨ha, hne, rfl⟩
        rw [e1] at e2
        cases e2
        exact absurd rfl h2
  · rw [updp_other c, h.at_ id hid p]
    constructor
    · rintro ⟨h1, h2, h3⟩
      refine ⟨h1, ?_, by rw [upd_other h2]; exact h3⟩
      rintro rfl
      exact c h3.symm
    · rintro ⟨h1, h2, h3⟩
      by_cases c2 : p = i
      · subst c2
        rw [upd_same] at h3
        exact absurd h3.symm c
      · rw [upd_other c2] at h3
        exact ⟨h1, c2, h3⟩

theorem Gap.up (h : Gap f n i x M pos) (h0 : 0 < i) : Gap (upd f i (f ((i - 1) / 2))) n ((i - 1) / 2) x M (updp pos (f ((i - 1) / 2)).2 (some i)) := by
  have hi := h.inn
  refine ⟨by omega, ?_, ?_, fun y => h.mem_move (by omega) (by omega) y, fun id hid p => h.at_move (by omega) (by omega) id hid p⟩
  · intro j h1 h2 h3 h4
    have c : j ≠ i := by rintro rfl; exact h4 rfl
    rw [upd_other c]
    by_cases c2 : (j - 1) / 2 = i
    · rw [c2, upd_same]
      exact h.over j h1 h2 c2 h0
    · rw [upd_other c2]
      exact h.order j h1 h2 c c2
  · intro j h1 h2 h3 h4
    have c2 : ((i - 1) / 2 - 1) / 2 ≠ i := by omega
    rw [upd_other c2]
    have e := h.order ((i - 1) / 2) h4 (by omega) (by omega) (by omega)
    by_cases c : j = i
    · rw [c, upd_same]
      exact e
    · rw [upd_other c]
      have e2 := h.order j h1 h2 c (by omega)
      rw [h3] at e2
      exact ge_trans e2 e

theorem Gap.down (h : Gap f n i x M pos) {b : Nat} (hb : b < n) (h0 : 0 < b) (hp : (b - 1) / 2 = i) (hs : ∀ j, 0 < j → j < n → (j - 1) / 2 = i → ¬ lt (f j) (f b)) :
    Gap (upd f i (f b)) n b x M (updp pos (f b).2 (some i)) := by
  have hi := h.inn
  refine ⟨hb, ?_, ?_, fun y => h.mem_move hb (by omega) y, fun id hid p => h.at_move hb (by omega) id hid p⟩
  · intro j h1 h2 h3 h4
    by_cases c : j = i
    · subst c
      rw [upd_same, upd_other (by omega)]
      exact h.over b h0 hb hp h1
    · rw [upd_other c]
      by_cases c2 : (j - 1) / 2 = i
      · rw [c2, upd_same]
        exact hs j h1 h2 c2
      · rw [upd_other c2]
        exact h.order j h1 h2 c c2
  · intro j h1 h2 h3 h4
    rw [hp, upd_same, upd_other (by omega)]
    have e := h.order j h1 h2 (by omega) (by omega)
    rw [h3] at e
    exact e

/-- x comes into the gap. -/
theorem Gap.done (h : Gap f n i x M pos) (hx : ∀ y, M y → y.2 ≠ x.2) (hu : 0 < i → ¬ lt x (f ((i - 1) / 2))) (hd : ∀ j, 0 < j → j < n → (j - 1) / 2 = i → ¬ lt (f j) x) :
    HeapOK (upd f i x) n (fun y => y = x ∨ M y) (updp pos x.2 (some i)) := by
  have hi := h.inn
  refine ⟨?_, ?_, ?_⟩
  · intro j h1 h2
    by_cases c : j = i
    · subst c
      rw [upd_same, upd_other (by omega)]
      exact hu h1
    · rw [upd_other c]
      by_cases c2 : (j - 1) / 2 = i
      · rw [c2, upd_same]
        exact hd j h1 h2 c2
      · rw [upd_other c2]
        exact h.order j h1 h2 c c2
  · intro y
    show (y = x ∨ M y) ↔ _
    rw [h.mem y]
    constructor
    · rintro (rfl | ⟨j, h1, h2, h3⟩)
      · exact ⟨i, hi, upd_same _ _ _⟩
      · exact ⟨j, h1, by rw [upd_other h2]; exact h3⟩
    · rintro ⟨j, h1, h2⟩
      by_cases c : j = i
      · subst c
        rw [upd_same] at h2
        exact .inl h2.symm
      · rw [upd_other c] at h2
        exact .inr ⟨j, h1, c, h2⟩
  · intro id p
    by_cases c : id = x.2
    · subst c
      rw [updp_same]
      constructor
      · intro e
        cases e
        exact ⟨hi, by rw [upd_same]⟩
      · rintro ⟨h1, h2⟩
        by_cases c : p = i
        · rw [c]
        · rw [upd_other c] at h2
          exact absurd h2 (hx _ ((h.mem _).2 ⟨p, h1, c, rfl⟩))
    · rw [updp_other c, h.at_ id c p]
      constructor
      · rintro ⟨h1, h2, h3⟩
        exact ⟨h1, by rw [upd_other h2]; exact h3⟩
      · rintro ⟨h1, h2⟩
        by_cases c2 : p = i
        · subst c2
          rw [upd_same] at h2
          exact absurd h2.symm c
        · rw [upd_other c2] at h2
          exact ⟨h1, c2, h2⟩

theorem HeapOK.empty : HeapOK f 0 (fun _ => False) (fun _ => none) :=
  by
  refine ⟨fun j _ h => by omega, fun y => ⟨fun h => h.elim, fun h => ?_⟩, fun id p => ⟨fun h => ?_, fun h => absurd h.1 (by omega)⟩⟩
  · obtain ⟨j, h, _⟩ := h; omega
  · cases h

theorem HeapOK.ids (h : HeapOK f n M pos) {y z : Int × Int} (hy : M y) (hz : M z) (e : y.2 = z.2) : y = z := by
  obtain ⟨j, h1, rfl⟩ := (h.mem y).1 hy
  obtain ⟨k, h2, rfl⟩ := (h.mem z).1 hz
  have e1 := (h.at_ _ j).2 ⟨h1, rfl⟩
  have e2 := (h.at_ _ k).2 ⟨h2, rfl⟩
  rw [e, e2] at e1
  cases e1
  rfl

theorem HeapOK.none_iff (h : HeapOK f n M pos) (id : Int) : pos id = none ↔ ∀ y, M y → y.2 ≠ id := by
  constructor
  · intro e y hy hid
    obtain ⟨j, h1, rfl⟩ := (h.mem y).1 hy
    rw [(h.at_ id j).2 ⟨h1, hid⟩] at e
    cases e
  · intro hn
    cases e : pos id with
    | none => rfl
    | some p =>
      obtain ⟨h1, h2⟩ := (h.at_ id p).1 e
      exact absurd h2 (hn _ ((h.mem _).2 ⟨p, h1, rfl⟩))

theorem HeapOK.least (h : HeapOK f n M pos) : ∀ j, j < n → ¬ lt (f j) (f 0) := by
  intro j
  induction j using Nat.strongRecOn with
  | _ j ih =>
    intro hj
    by_cases c : j = 0
    · subst c
      exact lt_irrefl _
    · exact ge_trans (h.order j (by omega) hj) (ih ((j - 1) / 2) (by omega) (by omega))

/-- Ahead of a Push. -/
theorem HeapOK.pushed (h : HeapOK f n M pos) : Gap (upd f n x) (n + 1) n x M pos := by
  refine ⟨by omega, ?_, ?_, ?_, ?_⟩
  · intro j h1 h2 h3 h4
    rw [upd_other h3, upd_other h4]
    exact h.order j h1 (by omega)
  · intro j h1 h2 h3 _
    omega
  · intro y
    rw [h.mem y]
    constructor
    · rintro ⟨j, h1, h2⟩
      exact ⟨j, by omega, by omega, by rw [upd_other (by omega)]; exact h2⟩
    · rintro ⟨j, h1, h2, h3⟩
      rw [upd_other h2] at h3
      exact ⟨j, by omega, h3⟩
  · intro id hid p
    rw [h.at_ id p]
    constructor
    · rintro ⟨h1, h2⟩
      exact ⟨by omega, by omega, by rw [upd_other (by omega)]; exact h2⟩
    · rintro ⟨h1, h2, h3⟩
      rw [upd_other h2] at h3
      exact ⟨by omega, h3⟩

/-- Ahead of a Change: what stands at i has x's id. -/
theorem HeapOK.changed (h : HeapOK f n M pos) (hi : pos x.2 = some i) : Gap f n i x (fun y => M y ∧ y.2 ≠ x.2) pos := by
  obtain ⟨hin, hid⟩ := (h.at_ _ _).1 hi
  refine ⟨hin, fun j h1 h2 _ _ => h.order j h1 h2, ?_, ?_, ?_⟩
  · intro j h1 h2 h3 h4
    have e1 := h.order j h1 h2
    rw [h3] at e1
    exact ge_trans e1 (h.order i h4 hin)
  · intro y
    constructor
    · rintro ⟨hy, hne⟩
      obtain ⟨j, h1, rfl⟩ := (h.mem y).1 hy
      exact ⟨j, h1, by rintro rfl; exact hne hid, rfl⟩
    · rintro ⟨j, h1, h2, rfl⟩
      refine ⟨(h.mem _).2 ⟨j, h1, rfl⟩, fun e => h2 ?_⟩
      have e1 := (h.at_ _ _).2 ⟨h1, e⟩
      rw [hi] at e1
      cases e1
      rfl
  · intro id hne p
    rw [h.at_ id p]
    constructor
    · rintro ⟨h1, h2⟩
      exact ⟨h1, by rintro rfl; exact hne (h2.symm.trans hid), h2⟩
    · rintro ⟨h1, _, h3⟩
      exact ⟨h1, h3⟩

/-- The last one is taken out. -/
theorem HeapOK.popped (h : HeapOK f (n + 1) M pos) : HeapOK f n (fun y => M y ∧ y.2 ≠ (f n).2) (updp pos (f n).2 none) := by
  refine ⟨fun j h1 h2 => h.order j h1 (by omega), ?_, ?_⟩
  · intro y
    constructor
    · rintro ⟨hy, hne⟩
      obtain ⟨j, h1, rfl⟩ := (h.mem y).1 hy
      by_cases c : j = n
      · subst c; exact absurd rfl hne
      · exact ⟨j, by omega, rfl⟩
    · rintro ⟨j, h1, rfl⟩
      refine ⟨(h.mem _).2 ⟨j, by omega, rfl⟩, fun e => ?_⟩
      have e1 := (h.at_ _ j).2 ⟨by omega, e⟩
      have e2 := (h.at_ _ n).2 ⟨by omega, rfl⟩
      rw [e1] at e2
      cases e2
      omega
  · intro id p
    by_cases c : id = (f n).2
    · subst c
      rw [updp_same]
      constructor
      · intro e; cases e
      · rintro ⟨h1, h2⟩
        have e1 := (h.at_ _ p).2 ⟨by omega, h2⟩
        have e2 := (h.at_ _ n).2 ⟨by omega, rfl⟩
        rw [e1] at e2
        cases e2
        omega
    · rw [updp_other c, h.at_ id p]
      constructor
      · rintro ⟨h1, h2⟩
        refine ⟨?_, h2⟩
        have : p ≠ n := by rintro rfl; exact c h2.symm
        omega
      · rintro ⟨h1, h2⟩
        exact ⟨by omega, h2⟩

/-- Another one is taken out: the last one is to fill the gap. -/
theorem HeapOK.taken (h : HeapOK f (n + 1) M pos) (hi : i < n) : Gap f n i (f n) (fun y => (M y ∧ y.2 ≠ (f i).2) ∧ y.2 ≠ (f n).2) (updp pos (f i).2 none) ∧ (f i).2 ≠ (f n).2 ∧ updp pos (f i).2 none (f n).2 = some n := by
  have ei := (h.at_ _ i).2 ⟨by omega, rfl⟩
  have en := (h.at_ _ n).2 ⟨by omega, rfl⟩
  have hne : (f i).2 ≠ (f n).2 := by
    intro e
    rw [e, en] at ei
    cases ei
    omega
  refine ⟨⟨hi, fun j h1 h2 _ _ => h.order j h1 (by omega), ?_, ?_, ?_⟩, hne, by rw [updp_other hne.symm]; exact en⟩
  · intro j h1 h2 h3 h4
    have e1 := h.order j h1 (by omega)
    rw [h3] at e1
    exact ge_trans e1 (h.order i h4 (by omega))
  · intro y
    constructor
    · rintro ⟨⟨hy, h1⟩, h2⟩
      obtain ⟨j, h3, rfl⟩ := (h.mem y).1 hy
      have c1 : j ≠ n := by rintro rfl; exact h2 rfl
      exact ⟨j, by omega, by rintro rfl; exact h1 rfl, rfl⟩
    · rintro ⟨j, h1, h2, rfl⟩
      refine ⟨⟨(h.mem _).2 ⟨j, by omega, rfl⟩, fun e => h2 ?_⟩, fun e => ?_⟩
      · have e1 := (h.at_ _ j).2 ⟨by omega, e⟩
        rw [ei] at e1; cases e1; rfl
      · have e1 := (h.at_ _ j).2 ⟨by omega, e⟩
        rw [en] at e1; cases e1; omega
  · intro id hid p
    by_cases c : id = (f i).2
    · subst c
      rw [updp_same]
      constructor
      · intro e; cases e
      · rintro ⟨h1, h2, h3⟩
        have e1 := (h.at_ _ p).2 ⟨by omega, h3⟩
        rw [ei] at e1; cases e1
        exact absurd rfl h2
    · rw [updp_other c, h.at_ id p]
      constructor
      · rintro ⟨h1, h2⟩
        have c1 : p ≠ n := by rintro rfl; exact hid h2.symm
        exact ⟨by omega, by rintro rfl; exact c h2.symm, h2⟩
      · rintro ⟨h1, _, h3⟩
        exact ⟨by omega, h3⟩

theorem HeapOK.congr (h : HeapOK f n M pos) {M' : Int × Int → Prop} (e : ∀ y, M' y ↔ M y) : HeapOK f n M' pos := ⟨h.order, fun y => (e y).trans (h.mem y), h.at_⟩
end

/-- A list in order, of just the items that M says. -/
def ListOf (L : List (Int × Int)) (M : Int × Int → Prop) : Prop := L.Pairwise lt ∧ ∀ y, y ∈ L ↔ M y

theorem sorted_eq : ∀ {L K : List (Int × Int)}, L.Pairwise lt → K.Pairwise lt → (∀ y, y ∈ L ↔ y ∈ K) → L = K
  | [], [], _, _, _ => rfl
  | [], z :: K, _, _, h => by have := (h z).2 (by simp); simp at this
  | z :: L, [], _, _, h => by have := (h z).1 (by simp); simp at this
  | a :: L, b :: K, h1, h2, h => by
    obtain ⟨p1, q1⟩ := List.pairwise_cons.1 h1
    obtain ⟨p2, q2⟩ := List.pairwise_cons.1 h2
    have e : a = b := by
      have ha := (h a).1 (by simp)
      have hb := (h b).2 (by simp)
      rcases List.mem_cons.1 ha with e | ha'
      · exact e
      · rcases List.mem_cons.1 hb with e | hb'
        · exact e.symm
        · exact absurd (p1 b hb') (lt_asymm (p2 a ha'))
    subst e
    rw [sorted_eq q1 q2 (fun y => ?_)]
    constructor
    · intro hy
      rcases List.mem_cons.1 ((h y).1 (List.mem_cons_of_mem _ hy)) with e | k
      · subst e; exact absurd (p1 y hy) (lt_irrefl y)
      · exact k
    · intro hy
      rcases List.mem_cons.1 ((h y).2 (List.mem_cons_of_mem _ hy)) with e | k
      · subst e; exact absurd (p2 y hy) (lt_irrefl y)
      · exact k

theorem ListOf.unique {L K : List (Int × Int)} {M N : Int × Int → Prop} (h : ListOf L M) (k : ListOf K N) (e : ∀ y, M y ↔ N y) : L = K :=
  sorted_eq h.1 k.1 fun y => (h.2 y).trans ((e y).trans (k.2 y).symm)
end Go.Proofs.Ythamaiibknmeeaa
