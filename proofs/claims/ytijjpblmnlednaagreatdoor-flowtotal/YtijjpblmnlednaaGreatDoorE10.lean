/-
  What 'byName' and 'byRankAndName' answer, for all levels and schemas; the orders that they make.
-/
import Derived.Test.YtijjpblmnlednaaGreatDoorE0
import Derived.Test.YtijjpblmnlednaaGreatDoorE9
import Derived.StillTailTactics
namespace Go.Proofs.YtijjpblmnlednaaGreatDoor
open Go.RowKit Go.Lib Go.Sort
theorem Tryz.mixed : Tryz.prog.follows Departure.mixedOrders = true := by kernel_rfl
/-- A region that draws its order, of which the first n operations only read, and the others wait for one another. -/
theorem region_tail {id : Nat} {Q : Exit → Act → World → Prop} {a : Act} {w : World} {l : List Oper} (n : Nat) (hB : Region.lexTailB .any l.toArray n = true)
    (h : wpStill Tryz.prog l.toArray w.drew (fun a' => wpList Tryz.prog l.toArray Q (l.drop n) a' w.drew) (l.take n) a) : (Code.region id l.toArray true).wp Tryz.prog Q a w :=
  wp_region_still_tail n Tryz.mixed hB h

def orI (p q : Int) : Int := if p = 0 then q else p
theorem or_any (p q : Int) (g : Nat) (w : World) (h0 : w.cell? ⟨g, 0, none⟩ = some (.int .i64 p)) (h1 : w.cell? ⟨g, 1, none⟩ = some (.int .i64 q)) :
    Calls Tryz.prog 39 #[.slice (some ⟨g, 0, none⟩) 2 2] w fun e w' => e = .returned (.int .i64 (orI p q)) ∧ w' = w := by
  by_cases c : p = 0
  · subst c
    have e : orI 0 q = q := if_pos rfl
    rw [e]; clear e
    by_cases c2 : q = 0
    · subst c2
      go_enter Tryz.func39, Tryz.ntmps39
      go_wp2
      go_loop [8] (fun i => ∃ k : Nat, k ≤ 2 ∧ i = .int .i64 k) (fun i => 2 - (intOf i).toNat)
      case atStart => exact ⟨0, by omega, rfl⟩
      case round =>
        obtain ⟨k, hk, rfl⟩ := hrel
        match k, hk with
        | 0, _ =>
          go_wp2
          go_round
          case rel => exact ⟨1, by omega, by go_num⟩
          case measure => simp [intOf]
        | 1, _ =>
          go_wp2
          go_round
          case rel => exact ⟨2, by omega, by go_num⟩
          case measure => simp [intOf]
        | 2, _ =>
          go_wp2
          go_ret; exact ⟨rfl, rfl⟩
    · go_enter Tryz.func39, Tryz.ntmps39
      go_wp2
      go_loop [8] (fun i => ∃ k : Nat, k ≤ 1 ∧ i = .int .i64 k) (fun i => 2 - (intOf i).toNat)
      case atStart => exact ⟨0, by omega, rfl⟩
      case round =>
        obtain ⟨k, hk, rfl⟩ := hrel
        match k, hk with
        | 0, _ =>
          go_wp2
          go_round
          case rel => exact ⟨1, by omega, by go_num⟩
          case measure => simp [intOf]
        | 1, _ =>
          go_wp2
          go_ret; exact ⟨rfl, rfl⟩
  · have e : orI p q = p := if_neg c
    rw [e]; clear e
    go_enter Tryz.func39, Tryz.ntmps39
    go_wp2
    go_loop [8] (fun i => i = .int .i64 0) (fun _ => 0)
    case atStart => rfl
    case round =>
      subst hrel
      go_wp2
      go_ret; exact ⟨rfl, rfl⟩

def cmpN (x y : ByteArray) : Int := Lib.compareBytes x.data.toList y.data.toList
theorem scmp_ok (x y : ByteArray) (w : World) : Calls Tryz.prog 37 #[.string x, .string y] w fun e w' => e = .returned (.int .i64 (cmpN x y)) ∧ w' = w := Any.strings_Compare Tryz.laysCompare x y w
theorem icmp_ok (x y : Int) (w : World) : Calls Tryz.prog 40 #[.int .i64 x, .int .i64 y] w fun e w' => e = .returned (.int .i64 (Lib.compareInt x y)) ∧ w' = w := Any.cmp_Compare_int Tryz.laysCmpInt x y w

def cmpL (x y : Lv) : Int := cmpN x.name y.name
def cmpS (x y : Sc) : Int := orI (Lib.compareInt x.rank y.rank) (cmpN x.name y.name)

set_option maxHeartbeats 1000000 in
theorem byName_any (x y : Lv) (w : World) : Calls Tryz.prog 13 #[lvV x, lvV y] w fun e w' => e = .returned (.int .i64 (cmpL x y)) ∧ ∃ q os, w' = grow (w.drewN q) os := by
  have S := scmp_ok x.name y.name
  unfold cmpL
  generalize cmpN x.name y.name = r at S ⊢
  obtain ⟨a0, a1, a2, a3, a4, a5, a6, a7, a8, a9⟩ := x
  obtain ⟨b0, b1, b2, b3, b4, b5, b6, b7, b8, b9⟩ := y
  unfold lvV
  go_enter Tryz.func13, Tryz.ntmps13
  go_wp2_with (go_at_call 37; refine (S _).mono ?_; rintro e w' ⟨rfl, hw⟩; obtain rfl := hw.symm)
  go_ret
  exact ⟨rfl, 0, _, by rw [alloc_eq_grow, alloc_eq_grow, grow_grow]; rfl⟩

set_option maxRecDepth 20000 in
set_option maxHeartbeats 2000000 in
theorem byRank_any (x y : Sc) (u v : Value) (w : World) : Calls Tryz.prog 15 #[scV x u, scV y v] w fun e w' => e = .returned (.int .i64 (cmpS x y)) ∧ ∃ q os, w' = grow (w.drewN q) os := by
  have S := scmp_ok x.name y.name
  have I := icmp_ok x.rank y.rank
  have O := or_any (Lib.compareInt x.rank y.rank) (cmpN x.name y.name)
  unfold cmpS
  generalize orI (Lib.compareInt x.rank y.rank) (cmpN x.name y.name) = r at O ⊢
  generalize cmpN x.name y.name = c2 at S O
  generalize Lib.compareInt x.rank y.rank = c1 at I O
  obtain ⟨a0, a1, a2, a3, a4⟩ := x
  obtain ⟨b0, b1, b2, b3, b4⟩ := y
  unfold scV
  go_enter Tryz.func15, Tryz.ntmps15
  go_wp2_with fail
  refine region_tail 10 (by kernel_rfl) ?_
  simp only [List.take_succ_cons, List.take_zero, List.drop_succ_cons, List.drop_zero]
  still_step
  still_step
  still_step
  still_step
  still_call (I _)
  still_step
  still_step
  still_step
  still_step
  still_call (S _)
  refine wpStill_nil ?_
  go_wp2_with (go_at_call 39; refine (O _ _ (by simp [go_sem]) (by simp [go_sem])).mono ?_; rintro e w' ⟨rfl, hw⟩; obtain rfl := hw.symm)
  go_ret
  exact ⟨rfl, 1, _, by rw [alloc_eq_grow, alloc_eq_grow, alloc_eq_grow, grow_grow, grow_grow]; rfl⟩

/-! The orders. -/
def ltL (x y : Lv) : Bool := txLt x.name y.name
def ltS (x y : Sc) : Bool := decide (x.rank < y.rank) || (decide (x.rank = y.rank) && txLt x.name y.name)
theorem ltOf_L (x y : Lv) : ltOf cmpL x y = ltL x y := cmpB_lt _ _
theorem ltOf_S (x y : Sc) : ltOf cmpS x y = ltS x y := by
  have h := cmpB_lt x.name.data.toList y.name.data.toList
  unfold ltOf cmpS ltS orI Lib.compareInt txLt cmpN
  by_cases h1 : x.rank < y.rank
  · rw [if_pos h1]; simp [h1]
  · rw [if_neg h1]
    by_cases h2 : x.rank > y.rank
    · rw [if_pos h2]
      have : ¬ x.rank = y.rank := by omega
      simp [h1, this]
    · rw [if_neg h2, if_pos rfl, h]
      have : x.rank = y.rank := by omega
      simp [this]
theorem strictL : Strict ltL := ⟨fun _ => txLt_strict.no _, fun _ _ _ => txLt_strict.tr _ _ _⟩
theorem strictS : Strict ltS := by
  refine ⟨fun a => ?_, fun a b c h1 h2 => ?_⟩
  · unfold ltS; rw [txLt_strict.no]; simp
  · unfold ltS at *
    simp only [Bool.or_eq_true, Bool.and_eq_true, decide_eq_true_eq] at *
    rcases h1 with h1 | ⟨e1, h1⟩ <;> rcases h2 with h2 | ⟨e2, h2⟩
    · exact .inl (by omega)
    · exact .inl (by omega)
    · exact .inl (by omega)
    · exact .inr ⟨by omega, txLt_strict.tr _ _ _ h1 h2⟩
theorem txLt_neg (x y z : ByteArray) (h1 : txLt x y = false) (h2 : txLt y z = false) : txLt x z = false := by
  cases e : txLt x z with
  | false => rfl
  | true =>
    by_cases c : x = y
    · subst c; rw [e] at h2; cases h2
    · have := (txLt_apart c).resolve_left (by rw [h1]; decide)
      rw [txLt_strict.tr _ _ _ this e] at h2; cases h2
theorem ltS_neg (x y z : Sc) (h1 : ltS x y = false) (h2 : ltS y z = false) : ltS x z = false := by
  unfold ltS at *
  simp only [Bool.or_eq_false_iff, Bool.and_eq_false_iff, decide_eq_false_iff_not] at *
  obtain ⟨a1, b1⟩ := h1
  obtain ⟨a2, b2⟩ := h2
  refine ⟨by omega, ?_⟩
  by_cases c : x.rank = z.rank
  · have e1 : x.rank = y.rank := by omega
    have e2 : y.rank = z.rank := by omega
    exact .inr (txLt_neg _ _ _ (b1.resolve_left (fun h => h e1)) (b2.resolve_left (fun h => h e2)))
  · exact .inl c
/-- Over places: a list's elements by their numbers. -/
theorem swoL {f : Nat → Lv} : SWO (ltOf fun i j => cmpL (f i) (f j)) := by
  have e : ∀ i j, ltOf (fun i j => cmpL (f i) (f j)) i j = ltL (f i) (f j) := fun i j => ltOf_L _ _
  exact ⟨fun x => by rw [e]; exact strictL.no _, fun x y z h1 h2 => by rw [e] at *; exact strictL.tr _ _ _ h1 h2, fun x y z h1 h2 => by rw [e] at *; exact txLt_neg _ _ _ h1 h2⟩
theorem swoS {f : Nat → Sc} : SWO (ltOf fun i j => cmpS (f i) (f j)) := by
  have e : ∀ i j, ltOf (fun i j => cmpS (f i) (f j)) i j = ltS (f i) (f j) := fun i j => ltOf_S _ _
  exact ⟨fun x => by rw [e]; exact strictS.no _, fun x y z h1 h2 => by rw [e] at *; exact strictS.tr _ _ _ h1 h2, fun x y z h1 h2 => by rw [e] at *; exact ltS_neg _ _ _ h1 h2⟩
end Go.Proofs.YtijjpblmnlednaaGreatDoor
