/-
  Whether a list has a text: 'Has' of match.
  Whom a rule speaks of: 'Rule' of match.
-/
import Derived.Test.YtijjpblmnlednaaGreatDoorE9
import Derived.BigQuiet
import Derived.Test.YtijjpblmnlednaaGreatDoorE14
namespace Go.Proofs.YtijjpblmnlednaaGreatDoor
open Go.RowKit
def star : ByteArray := ⟨#[42]⟩
def anyT (L : List ByteArray) (x : ByteArray) : Bool := L.any fun y => decide (y = x)
/-- The one text that means all. -/
def allT (L : List ByteArray) : Bool := decide (L.length = 1) && decide (gt L 0 = star)
def hasB (L : List ByteArray) (x : ByteArray) : Bool := allT L || anyT L x
theorem star_l : star.toList = [42] := by rw [ByteArray.toList_eq]; rfl
theorem star_eq (x : ByteArray) : (x.toList == [42]) = decide (x = star) := by rw [← name_eq, star_l]
theorem one_no {n : Nat} (h : ¬ n = 1) : ((n : Int) == 1) = false := by
  rw [beq_eq_false_iff_ne]
  omega
theorem one_yes {n : Nat} (h : n = 1) : ((n : Int) == 1) = true := by subst h; rfl
theorem any_no {L : List ByteArray} {x : ByteArray} (h : ∀ j (_ : j < L.length), gt L j ≠ x) : anyT L x = false := by
  unfold anyT
  rw [List.any_eq_false]
  intro y hy
  obtain ⟨j, hj, rfl⟩ := List.getElem_of_mem hy
  have := h j hj
  rw [gt_eq hj] at this
  simpa using this
theorem any_yes {L : List ByteArray} {x : ByteArray} {k : Nat} (hk : k < L.length) (h : gt L k = x) : anyT L x = true := by
  unfold anyT
  rw [List.any_eq_true]
  rw [gt_eq hk] at h
  exact ⟨L[k], List.getElem_mem hk, decide_eq_true h⟩
theorem next_no {L : List ByteArray} {x : ByteArray} {k : Nat} (h : ∀ j (_ : j < L.length), j < k → gt L j ≠ x) (hx : gt L k ≠ x) : ∀ j (_ : j < L.length), j < k + 1 → gt L j ≠ x := fun j hj hjk => by
  rcases Nat.lt_or_eq_of_le (Nat.le_of_lt_succ hjk) with h1 | h1
  · exact h j hj h1
  · subst h1; exact hx

theorem index_ok (a : Option Addr) (c : Nat) (L : List ByteArray) (x : ByteArray) (w : World) (hr : RowL w a L) (hl : L.length ≤ 9223372036854775807) :
    Calls Tryz.prog 142 #[.slice a L.length c, .string x] w fun e w' => (∃ q : Int, e = .returned (.int .i64 q) ∧ decide (0 ≤ q) = anyT L x) ∧ w' = w := by
  have HR : Hd (RowL w a L) := ⟨hr⟩
  clear hr
  go_enter Tryz.func142, Tryz.ntmps142
  go_wp2_with fail
  go_loopw [8] (fun i wr => ∃ k : Nat, k ≤ L.length ∧ i = .int .i64 k ∧ Hd (∀ j (_ : j < L.length), j < k → gt L j ≠ x) ∧ wr = w) (fun i _ => L.length - (intOf i).toNat)
  case atStart => exact ⟨0, Nat.zero_le _, rfl, ⟨fun j _ h => absurd h (Nat.not_lt_zero _)⟩, rfl⟩
  case round =>
    obtain ⟨k, hk, rfl, hno, rfl⟩ := hrel
    by_cases hlt : k < L.length
    · obtain ⟨b, off, rfl, hb, hc⟩ := HR.out (by omega)
      have ck := hc k hlt
      clear hc
      have HI : Hd (k < L.length) := ⟨hlt⟩
      by_cases hx : gt L k = x
      · have A : Hd (anyT L x = true) := ⟨any_yes hlt hx⟩
        have E : (x.toList == (gt L k).toList) = true := str_is hx.symm
        clear hno hx
        generalize gt L k = y at *
        go_wp2_with fail
        go_ret
        exact ⟨⟨k, rfl, by rw [A.out]; exact decide_eq_true (Int.natCast_nonneg k)⟩, rfl⟩
      · have A : Hd (∀ j (_ : j < L.length), j < k + 1 → gt L j ≠ x) := ⟨next_no hno.out hx⟩
        have E : (x.toList == (gt L k).toList) = false := str_isnt (fun h => hx h.symm)
        clear hno hx
        generalize hy : gt L k = y at ck E
        clear hy
        go_wp2_with fail
        go_roundw
        case rel => exact ⟨k + 1, HI.out, by go_num, A, (by first | rfl | trivial)⟩
        case measure => have := HI.out; simp [intOf]; omega
    · obtain rfl : k = L.length := by omega
      have A : Hd (anyT L x = false) := ⟨any_no fun j hj => hno.out j hj hj⟩
      clear hno
      go_wp2_with fail
      go_ret
      exact ⟨⟨-1, rfl, by rw [A.out]; decide⟩, rfl⟩

theorem contains_ok (a : Option Addr) (c : Nat) (L : List ByteArray) (x : ByteArray) (w : World) (hr : RowL w a L) (hl : L.length ≤ 9223372036854775807) :
    Calls Tryz.prog 128 #[.slice a L.length c, .string x] w fun e w' => e = .returned (.bool (anyT L x)) ∧ w' = w := by
  have I := index_ok a c L x w hr hl
  clear hr
  generalize anyT L x = b at *
  generalize L.length = m at *
  go_enter Tryz.func128, Tryz.ntmps128
  go_wp2_with (go_at_call 142; refine I.mono ?_; rintro e w' ⟨⟨q, rfl, hq⟩, hw⟩; obtain rfl := hw.symm)
  go_ret
  exact ⟨by rw [← hq]; rfl, rfl⟩

theorem has_ok (v : Value) (L : List ByteArray) (x : ByteArray) (w : World) (h : LsR w v L) :
    Calls Tryz.prog 98 #[v, .string x] w fun e w' => e = .returned (.bool (hasB L x)) ∧ w' = w := by
  obtain ⟨a, c, rfl, hr, hc, h9, hx⟩ := h
  have I := contains_ok a c L x w hr h9
  have HR : Hd (RowL w a L) := ⟨hr⟩
  clear hr hc hx
  by_cases h1 : L.length = 1
  · obtain ⟨b, off, rfl, hb, hcs⟩ := HR.out (by omega)
    have c0 : w.cell? ⟨b, off, none⟩ = some (.string (gt L 0)) := hcs 0 (by omega)
    clear hcs
    have S := star_eq (gt L 0)
    by_cases hs : gt L 0 = star
    · have A : Hd (hasB L x = true) := ⟨by unfold hasB allT; rw [decide_eq_true h1, decide_eq_true hs]; rfl⟩
      rw [decide_eq_true hs] at S
      clear hs
      rw [h1] at I ⊢
      clear h1
      generalize gt L 0 = y at *
      go_enter Tryz.func98, Tryz.ntmps98
      go_wp2_with fail
      go_ret
      exact ⟨by rw [A.out]; rfl, rfl⟩
    · have A : Hd (hasB L x = anyT L x) := ⟨by unfold hasB allT; rw [decide_eq_false hs]; simp⟩
      rw [decide_eq_false hs] at S
      clear hs
      rw [h1] at I ⊢
      clear h1
      generalize hy : gt L 0 = y at c0 S
      clear hy
      go_enter Tryz.func98, Tryz.ntmps98
      go_wp2_with (go_at_call 128; refine I.mono ?_; rintro e w' ⟨rfl, hw⟩; obtain rfl := hw.symm)
      go_ret
      exact ⟨by rw [A.out]; rfl, rfl⟩
  · have A : Hd (hasB L x = anyT L x) := ⟨by unfold hasB allT; rw [decide_eq_false h1]; simp⟩
    have N := one_no h1
    generalize L.length = m at *
    go_enter Tryz.func98, Tryz.ntmps98
    go_wp2_with (go_at_call 128; refine I.mono ?_; rintro e w' ⟨rfl, hw⟩; obtain rfl := hw.symm)
    go_ret
    exact ⟨by rw [A.out]; rfl, rfl⟩
structure Rq where
  user : ByteArray
  groups : List ByteArray
  verb : ByteArray
  resource : ByteArray
  space : ByteArray
  objects : Int
def anyG (G L : List ByteArray) : Bool := L.any fun y => hasB G y
def askB (r : Rl) (q : Rq) : Bool := hasB r.users q.user || anyG r.groups q.groups
def ruleB (r : Rl) (q : Rq) : Bool := ((askB r q && hasB r.verbs q.verb) && hasB r.resources q.resource) && hasB r.spaces q.space
theorem anyG_no {G L : List ByteArray} (h : ∀ j (_ : j < L.length), hasB G (gt L j) = false) : anyG G L = false := by
  unfold anyG
  rw [List.any_eq_false]
  intro y hy
  obtain ⟨j, hj, rfl⟩ := List.getElem_of_mem hy
  have := h j hj
  rw [gt_eq hj] at this
  simp [this]
theorem anyG_yes {G L : List ByteArray} {k : Nat} (hk : k < L.length) (h : hasB G (gt L k) = true) : anyG G L = true := by
  unfold anyG
  rw [List.any_eq_true]
  rw [gt_eq hk] at h
  exact ⟨L[k], List.getElem_mem hk, h⟩
theorem nextG {G L : List ByteArray} {k : Nat} (h : ∀ j (_ : j < L.length), j < k → hasB G (gt L j) = false) (hx : hasB G (gt L k) = false) : ∀ j (_ : j < L.length), j < k + 1 → hasB G (gt L j) = false := fun j hj hjk => by
  rcases Nat.lt_or_eq_of_le (Nat.le_of_lt_succ hjk) with h1 | h1
  · exact h j hj h1
  · subst h1; exact hx
/-- Two boxes. -/
theorem boxes (w : World) (t1 t2 : Nat) (x y : Array Value) : Below w.heap.size w ((w.alloc (.cells x t1)).alloc (.cells y t2)) ∧ Blk ((w.alloc (.cells x t1)).alloc (.cells y t2)) w.heap.size t1 x ∧ Blk ((w.alloc (.cells x t1)).alloc (.cells y t2)) (w.heap.size + 1) t2 y :=
  ⟨((Below.refl _ _).alloc (Nat.le_refl _) _).alloc (by simp) _, (Blk.new w t1 x).alloc _, alloc_new w _ t2 y⟩

theorem ofG_ok (v : Value) (G : List ByteArray) (g : Nat) (x : ByteArray) (w : World) (hg : w.cell? ⟨g, 1, none⟩ = some v) (h : LsR w v G) :
    Calls Tryz.prog 127 #[.string x, .pointer (some ⟨g, 0, none⟩)] w fun e w' => e = .returned (.bool (hasB G x)) ∧ w' = w := by
  have I := has_ok v G x w h
  obtain ⟨a, c, rfl, -⟩ := h
  generalize hasB G x = b at *
  generalize G.length = m at *
  go_enter Tryz.func127, Tryz.ntmps127
  go_wp2_with (go_at_call 98; refine I.mono ?_; rintro e w' ⟨rfl, hw⟩; obtain rfl := hw.symm)
  go_ret
  exact ⟨rfl, rfl⟩

theorem indexG_ok (a : Option Addr) (c : Nat) (L : List ByteArray) (v : Value) (G : List ByteArray) (g : Nat) (w : World) (hr : RowL w a L) (hl : L.length ≤ 9223372036854775807) (hg : w.cell? ⟨g, 1, none⟩ = some v) (h : LsR w v G) :
    Calls Tryz.prog 141 #[.slice a L.length c, .func (.func 127) #[] #[.pointer (some ⟨g, 0, none⟩)]] w fun e w' => (∃ q : Int, e = .returned (.int .i64 q) ∧ decide (0 ≤ q) = anyG G L) ∧ w' = w := by
  have eg : ∀ args w, (callFunc 127 args).run Tryz.prog w = .ok (.enter 127 args) w := enters_of Tryz.func127 (by kernel_rfl) rfl
  have HR : Hd (RowL w a L) := ⟨hr⟩
  have HF : Hd (∀ x, Calls Tryz.prog 127 #[.string x, .pointer (some ⟨g, 0, none⟩)] w fun e w' => e = .returned (.bool (hasB G x)) ∧ w' = w) := ⟨fun x => ofG_ok v G g x w hg h⟩
  clear hr hg h
  go_enter Tryz.func141, Tryz.ntmps141
  go_wp2_with fail
  go_loopw [8] (fun i wr => ∃ k : Nat, k ≤ L.length ∧ i = .int .i64 k ∧ Hd (∀ j (_ : j < L.length), j < k → hasB G (gt L j) = false) ∧ wr = w) (fun i _ => L.length - (intOf i).toNat)
  case atStart => exact ⟨0, Nat.zero_le _, rfl, ⟨fun j _ h => absurd h (Nat.not_lt_zero _)⟩, rfl⟩
  case round =>
    obtain ⟨k, hk, rfl, hno, rfl⟩ := hrel
    by_cases hlt : k < L.length
    · obtain ⟨b, off, rfl, hb, hc⟩ := HR.out (by omega)
      have ck := hc k hlt
      clear hc
      have HI : Hd (k < L.length) := ⟨hlt⟩
      have I := HF.out (gt L k)
      cases hx : hasB G (gt L k) with
      | true =>
        have A : Hd (anyG G L = true) := ⟨anyG_yes hlt hx⟩
        rw [hx] at I
        clear hno hx
        generalize hy : gt L k = y at ck I
        clear hy
        go_wp2_with (go_at_fn 127; refine I.mono ?_; rintro e w2 ⟨rfl, hw⟩; obtain rfl := hw.symm)
        go_ret
        exact ⟨⟨k, rfl, by rw [A.out]; exact decide_eq_true (Int.natCast_nonneg k)⟩, rfl⟩
      | false =>
        have A : Hd (∀ j (_ : j < L.length), j < k + 1 → hasB G (gt L j) = false) := ⟨nextG hno.out hx⟩
        rw [hx] at I
        clear hno hx
        generalize hy : gt L k = y at ck I
        clear hy
        go_wp2_with (go_at_fn 127; refine I.mono ?_; rintro e w2 ⟨rfl, hw⟩; obtain rfl := hw.symm)
        go_roundw
        case rel => exact ⟨k + 1, HI.out, by go_num, A, (by first | rfl | trivial)⟩
        case measure => have := HI.out; simp [intOf]; omega
    · obtain rfl : k = L.length := by omega
      have A : Hd (anyG G L = false) := ⟨anyG_no fun j hj => hno.out j hj hj⟩
      clear hno
      go_wp2_with fail
      go_ret
      exact ⟨⟨-1, rfl, by rw [A.out]; decide⟩, rfl⟩

theorem containsG_ok (v' : Value) (L : List ByteArray) (v : Value) (G : List ByteArray) (g : Nat) (w : World) (hq : LsR w v' L) (hg : w.cell? ⟨g, 1, none⟩ = some v) (h : LsR w v G) :
    Calls Tryz.prog 126 #[v', .func (.func 127) #[] #[.pointer (some ⟨g, 0, none⟩)]] w fun e w' => e = .returned (.bool (anyG G L)) ∧ w' = w := by
  obtain ⟨a, c, rfl, hr, -, hl, -⟩ := hq
  have I := indexG_ok a c L v G g w hr hl hg h
  clear hr hg h
  generalize anyG G L = b at *
  generalize L.length = m at *
  go_enter Tryz.func126, Tryz.ntmps126
  go_wp2_with (go_at_call 141; refine I.mono ?_; rintro e w' ⟨⟨q, rfl, hq⟩, hw⟩; obtain rfl := hw.symm)
  go_ret
  exact ⟨by rw [← hq]; rfl, rfl⟩

theorem asker_ok {a0 a1 a2 a3 a4 ag : Option Addr} {n0 n1 n2 n3 n4 ng c0 c1 c2 c3 c4 cg : Nat} (r : Rl) (q : Rq) (w : World) (hr : RuR w (.slice a0 n0 c0) (.slice a1 n1 c1) (.slice a2 n2 c2) (.slice a3 n3 c3) (.slice a4 n4 c4) r) (hq : LsR w (.slice ag ng cg) q.groups) :
    Calls Tryz.prog 97 #[.agg #[.slice a0 n0 c0, .slice a1 n1 c1, .slice a2 n2 c2, .slice a3 n3 c3, .slice a4 n4 c4], .agg #[.string q.user, .slice ag ng cg, .string q.verb, .string q.resource, .string q.space, .int .i64 q.objects]] w fun e w' => e = .returned (.bool (askB r q)) ∧ Below w.heap.size w w' := by
  obtain ⟨w2, hw2⟩ : ∃ w2, w2 = (w.alloc (.cells #[.slice a0 n0 c0, .slice a1 n1 c1, .slice a2 n2 c2, .slice a3 n3 c3, .slice a4 n4 c4] 50)).alloc (.cells #[.string q.user, .slice ag ng cg, .string q.verb, .string q.resource, .string q.space, .int .i64 q.objects] 28) := ⟨_, rfl⟩
  have BX := boxes w 50 28 #[.slice a0 n0 c0, .slice a1 n1 c1, .slice a2 n2 c2, .slice a3 n3 c3, .slice a4 n4 c4] #[.string q.user, .slice ag ng cg, .string q.verb, .string q.resource, .string q.space, .int .i64 q.objects]
  rw [← hw2] at BX
  obtain ⟨B, N1, N2⟩ := BX
  have H1 := has_ok _ r.users q.user w2 (hr.1.carry B)
  have H2 := containsG_ok _ q.groups _ r.groups w.heap.size w2 (hq.carry B) (N1.cellv 1 rfl) (hr.2.1.carry B)
  have e0 := N1.cellv (v := .slice a0 n0 c0) 0 rfl
  have e1 := N1.cellv (v := .slice a1 n1 c1) 1 rfl
  have d0 := N2.cellv (v := .string q.user) 0 rfl
  have d1 := N2.cellv (v := .slice ag ng cg) 1 rfl
  have HB : Hd (Below w.heap.size w w2) := ⟨B⟩
  clear N1 N2 B hr hq
  unfold askB
  generalize hasB r.users q.user = b1 at *
  generalize anyG r.groups q.groups = b2 at *
  go_enter Tryz.func97, Tryz.ntmps97
  go_upto_region 1 with fail
  rw [← hw2]
  clear hw2
  generalize w.heap.size + 1 = A2 at *
  cases b1 with
  | true =>
    go_wp2_with (go_at_call 98; refine H1.mono ?_; rintro e w' ⟨rfl, hw⟩; obtain rfl := hw.symm)
    go_ret
    exact ⟨rfl, HB.out⟩
  | false =>
    go_wp2_with (first | (go_at_call 98; refine H1.mono ?_; rintro e w' ⟨rfl, hw⟩; obtain rfl := hw.symm) | (go_at_call 126; refine H2.mono ?_; rintro e w' ⟨rfl, hw⟩; obtain rfl := hw.symm))
    go_ret
    exact ⟨rfl, HB.out⟩

set_option maxHeartbeats 1000000 in
theorem rule_ok {a0 a1 a2 a3 a4 ag : Option Addr} {n0 n1 n2 n3 n4 ng c0 c1 c2 c3 c4 cg : Nat} (r : Rl) (q : Rq) (w : World) (hr : RuR w (.slice a0 n0 c0) (.slice a1 n1 c1) (.slice a2 n2 c2) (.slice a3 n3 c3) (.slice a4 n4 c4) r) (hq : LsR w (.slice ag ng cg) q.groups) :
    Calls Tryz.prog 49 #[.agg #[.slice a0 n0 c0, .slice a1 n1 c1, .slice a2 n2 c2, .slice a3 n3 c3, .slice a4 n4 c4], .agg #[.string q.user, .slice ag ng cg, .string q.verb, .string q.resource, .string q.space, .int .i64 q.objects]] w fun e w' => e = .returned (.bool (ruleB r q)) ∧ Below w.heap.size w w' := by
  obtain ⟨w2, hw2⟩ : ∃ w2, w2 = (w.alloc (.cells #[.slice a0 n0 c0, .slice a1 n1 c1, .slice a2 n2 c2, .slice a3 n3 c3, .slice a4 n4 c4] 50)).alloc (.cells #[.string q.user, .slice ag ng cg, .string q.verb, .string q.resource, .string q.space, .int .i64 q.objects] 28) := ⟨_, rfl⟩
  have BX := boxes w 50 28 #[.slice a0 n0 c0, .slice a1 n1 c1, .slice a2 n2 c2, .slice a3 n3 c3, .slice a4 n4 c4] #[.string q.user, .slice ag ng cg, .string q.verb, .string q.resource, .string q.space, .int .i64 q.objects]
  rw [← hw2] at BX
  obtain ⟨B, N1, N2⟩ := BX
  have H0 := asker_ok r q w2 (hr.carry B) (hq.carry B)
  have HW : Hd (∀ W, Below w2.heap.size w2 W → Blk W w.heap.size 50 #[.slice a0 n0 c0, .slice a1 n1 c1, .slice a2 n2 c2, .slice a3 n3 c3, .slice a4 n4 c4] ∧ Blk W (w.heap.size + 1) 28 #[.string q.user, .slice ag ng cg, .string q.verb, .string q.resource, .string q.space, .int .i64 q.objects] ∧ Below w.heap.size w W
      ∧ (Calls Tryz.prog 98 #[.slice a2 n2 c2, .string q.verb] W fun e w' => e = .returned (.bool (hasB r.verbs q.verb)) ∧ w' = W)
      ∧ (Calls Tryz.prog 98 #[.slice a3 n3 c3, .string q.resource] W fun e w' => e = .returned (.bool (hasB r.resources q.resource)) ∧ w' = W)
      ∧ (Calls Tryz.prog 98 #[.slice a4 n4 c4, .string q.space] W fun e w' => e = .returned (.bool (hasB r.spaces q.space)) ∧ w' = W)) :=
    ⟨fun W b => ⟨N1.kept (Kept.of_below b (fun _ => False)) id, N2.kept (Kept.of_below b (fun _ => False)) id, B.trans (b.mono B.size), has_ok _ _ _ W ((hr.2.2.1.carry B).carry b), has_ok _ _ _ W ((hr.2.2.2.1.carry B).carry b), has_ok _ _ _ W ((hr.2.2.2.2.carry B).carry b)⟩⟩
  have e0 := N1.cellv (v := .slice a0 n0 c0) 0 rfl
  have e1 := N1.cellv (v := .slice a1 n1 c1) 1 rfl
  have e2 := N1.cellv (v := .slice a2 n2 c2) 2 rfl
  have e3 := N1.cellv (v := .slice a3 n3 c3) 3 rfl
  have e4 := N1.cellv (v := .slice a4 n4 c4) 4 rfl
  have d0 := N2.cellv (v := .string q.user) 0 rfl
  have d1 := N2.cellv (v := .slice ag ng cg) 1 rfl
  have d2 := N2.cellv (v := .string q.verb) 2 rfl
  have d3 := N2.cellv (v := .string q.resource) 3 rfl
  have d4 := N2.cellv (v := .string q.space) 4 rfl
  have d5 := N2.cellv (v := .int .i64 q.objects) 5 rfl
  clear N1 N2 B hr hq
  unfold ruleB
  generalize askB r q = b0 at *
  generalize hasB r.verbs q.verb = b1 at *
  generalize hasB r.resources q.resource = b2 at *
  generalize hasB r.spaces q.space = b3 at *
  obtain ⟨x0, G, x2, x3, x4, x5⟩ := q
  simp only at *
  go_enter Tryz.func49, Tryz.ntmps49
  go_upto_region 1 with fail
  rw [← hw2]
  clear hw2
  cases b0 with
  | false =>
    go_wp2_with (go_at_call 97; refine H0.mono ?_; rintro e w3 ⟨rfl, b3⟩; have X := (HW.out w3 b3).2.2.1)
    go_ret
    exact ⟨rfl, X⟩
  | true =>
    go_wp2_with (first | (go_at_call 97; refine H0.mono ?_; rintro e w3 ⟨rfl, b3⟩; obtain ⟨N1, N2, BB, V1, V2, V3⟩ := HW.out w3 b3; have HB : Hd (Below w.heap.size w w3) := ⟨BB⟩; have f2 := N1.cellv (v := .slice a2 n2 c2) 2 rfl; have f3 := N1.cellv (v := .slice a3 n3 c3) 3 rfl; have f4 := N1.cellv (v := .slice a4 n4 c4) 4 rfl; have g2 := N2.cellv (v := .string x2) 2 rfl; have g3 := N2.cellv (v := .string x3) 3 rfl; have g4 := N2.cellv (v := .string x4) 4 rfl; clear BB N1 N2 e0 e1 e2 e3 e4 d0 d1 d2 d3 d4 d5 b3) | fail)
    cases b1 with
    | false =>
      refine V1.mono ?_
      rintro e w' ⟨rfl, hw⟩
      obtain rfl := hw.symm
      go_wp2_with fail
      go_ret
      exact ⟨rfl, HB.out⟩
    | true =>
      refine V1.mono ?_
      rintro e w' ⟨rfl, hw⟩
      obtain rfl := hw.symm
      go_wp2_with fail
      cases b2 with
      | false =>
        refine V2.mono ?_
        rintro e w' ⟨rfl, hw⟩
        obtain rfl := hw.symm
        go_wp2_with fail
        go_ret
        exact ⟨rfl, HB.out⟩
      | true =>
        refine V2.mono ?_
        rintro e w' ⟨rfl, hw⟩
        obtain rfl := hw.symm
        go_wp2_with fail
        refine V3.mono ?_
        rintro e w' ⟨rfl, hw⟩
        obtain rfl := hw.symm
        go_wp2_with fail
        go_ret
        exact ⟨rfl, HB.out⟩
end Go.Proofs.YtijjpblmnlednaaGreatDoor
