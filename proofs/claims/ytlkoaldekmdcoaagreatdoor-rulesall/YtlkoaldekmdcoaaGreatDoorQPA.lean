/-
  How a configuration is printed, and when it may be: the mathematics. No condition.
  A configuration is read as it was printed: the mathematics. Condition: it may be printed.
  What is read may be printed, and its text is no longer: the mathematics. No condition.
-/
import Derived.Test.YtlkoaldekmdcoaaGreatDoorQMA
import Derived.Test.YtlkoaldekmdcoaaGreatDoorQSD
namespace Go.Proofs.YtlkoaldekmdcoaaGreatDoor
open Go.Lib

theorem cut_join (c : UInt8) : ∀ (r : List (List UInt8)) (x : List UInt8), c ∉ x → (∀ y ∈ r, c ∉ y) → cutL c (x ++ joinTail [c] r) = x :: r
  | [], x, hx, _ => by
    have : joinTail [c] [] = [] := rfl
    rw [this, List.append_nil, cutL_plain c x hx]
  | y :: r, x, hx, hr => by
    rw [tail_cons, cutL_at c x _ hx, cut_join c r y (hr y (List.mem_cons_self ..)) (fun z hz => hr z (List.mem_cons_of_mem _ hz))]

/-- The word of a list; the empty text, if there is none. -/
def joinB (L : List ByteArray) : ByteArray := if L = [] then mk [45] else if L = [mk [42]] then mk [42] else if good L then mk (join (L.map (·.data.toList)) [44]) else mk []

theorem map_mk (L : List ByteArray) : (L.map (·.data.toList)).map mk = L := by
  rw [List.map_map]
  have : (mk ∘ fun x : ByteArray => x.data.toList) = id := by funext x; exact mk_of x
  rw [this, List.map_id]
theorem join_back {L : List ByteArray} (h : Good L) (hne : L ≠ []) : cutB 44 (mk (join (L.map (·.data.toList)) [44])) = L := by
  have hw := good_words h
  cases L with
  | nil => exact absurd rfl hne
  | cons x r =>
    unfold cutB
    rw [mk_list, List.map_cons, join_cons, cut_join 44 _ _ (word_comma (hw x (List.mem_cons_self ..))) (fun y hy => by
      obtain ⟨z, hz, rfl⟩ := List.mem_map.1 hy
      exact word_comma (hw z (List.mem_cons_of_mem _ hz))), List.map_cons, mk_of, map_mk]

/-- A list is read as it was joined. -/
theorem list_join (L : List ByteArray) (h : joinB L ≠ mk []) : listOk (joinB L) = true ∧ listOf (joinB L) = L := by
  unfold joinB at h ⊢
  by_cases h0 : L = []
  · rw [if_pos h0]
    unfold listOk listOf
    rw [if_pos rfl, if_pos rfl, h0]
    exact ⟨rfl, rfl⟩
  rw [if_neg h0] at h ⊢
  by_cases h1 : L = [mk [42]]
  · rw [if_pos h1]
    unfold listOk listOf
    rw [if_neg (by decide), if_pos rfl, if_neg (by decide), if_pos rfl, h1]
    exact ⟨rfl, rfl⟩
  rw [if_neg h1] at h ⊢
  cases hg : good L with
  | false => rw [hg] at h; exact absurd rfl h
  | true =>
    rw [if_pos rfl]
    have hG := good_iff.1 hg
    have hb := join_back hG h0
    have n1 : mk (join (L.map (·.data.toList)) [44]) ≠ mk [45] := fun e => by
      rw [e, show cutB 44 (mk [45]) = [mk [45]] from rfl] at hb
      have := good_words hG (mk [45]) (by rw [← hb]; simp)
      rw [dash_no] at this
      cases this
    have n2 : mk (join (L.map (·.data.toList)) [44]) ≠ mk [42] := fun e => by
      rw [e, show cutB 44 (mk [42]) = [mk [42]] from rfl] at hb
      exact h1 hb.symm
    unfold listOk listOf
    rw [if_neg n1, if_neg n2, if_neg n1, if_neg n2, hb, hg]
    exact ⟨rfl, rfl⟩

/-- A list is joined as it was read. -/
theorem join_list (s : ByteArray) (h : listOk s = true) : joinB (listOf s) = s := by
  unfold listOk at h
  unfold listOf
  by_cases h0 : s = mk [45]
  · rw [if_pos h0]
    unfold joinB
    rw [if_pos rfl, h0]
  rw [if_neg h0] at h ⊢
  by_cases h1 : s = mk [42]
  · rw [if_pos h1]
    unfold joinB
    rw [if_neg (by simp), if_pos rfl, h1]
  rw [if_neg h1] at h ⊢
  rw [if_pos h]
  have hG := good_iff.1 h
  unfold joinB
  rw [if_neg (by unfold cutB; intro e; exact cutL_ne 44 _ (List.map_eq_nil_iff.1 e)), if_neg (fun e => by
    have := good_words hG (mk [42]) (by rw [e]; simp)
    rw [star_no] at this
    cases this), if_pos h]
  unfold cutB
  rw [List.map_map]
  have : ((fun x : ByteArray => x.data.toList) ∘ mk) = id := by funext x; exact mk_list x
  rw [this, List.map_id, join_cut, mk_of]
theorem no_list : listOk (mk []) = false := by
  unfold listOk
  rw [if_neg (by decide), if_neg (by decide), show cutB 44 (mk []) = [mk []] from rfl]
  cases h : good [mk []] with
  | false => rfl
  | true =>
    have := good_words (good_iff.1 h) (mk []) (by simp)
    rw [isWord_eq] at this
    revert this
    decide

/-! ### the words of the lines -/
def numWs (C : Cf) : List (List ByteArray) :=
  (if C.total = 0 then [] else [[tTotal, digB C.total]]) ++ ((if C.period = 0 then [] else [[tPeriod, digB C.period]]) ++ (if C.perSeat = 0 then [] else [[tSeats, digB C.perSeat, digB C.most]]))
def borW (n : Int) : ByteArray := if n = -1 then tAll else digB n
def lvWs (l : Lv) : List ByteArray :=
  if l.kind = 1 then [tLevel, l.name, tExempt]
  else if l.kind = 2 then [tLevel, l.name, digB l.shares, digB l.lend, borW l.borrow, tReject]
  else if l.kind = 3 then [tLevel, l.name, digB l.shares, digB l.lend, borW l.borrow, tQueue, digB l.queues, digB l.hand, digB l.length, digB l.wait, digB l.guess]
  else [tLevel, l.name]
def byW (n : Int) : ByteArray := if n = 0 then tNone else if n = 1 then tUser else if n = 2 then tSpace else mk []
def scWs (s : Sc) : List ByteArray := [tSchema, s.name, s.level, digB s.rank, byW s.way]
def rlJ (r : Rl) : List ByteArray := [joinB r.users, joinB r.groups, joinB r.verbs, joinB r.resources, joinB r.spaces]
def rlWs (r : Rl) : List ByteArray := tRule :: rlJ r
def scLs (s : Sc) : List (List ByteArray) := scWs s :: s.rules.map rlWs
def cfWs (C : Cf) : List (List ByteArray) := numWs C ++ (C.levels.map lvWs ++ C.schemas.flatMap scLs)

/-! ### what may be printed -/
def inI (n lo hi : Int) : Bool := decide (lo ≤ n) && decide (n ≤ hi)
theorem inI_iff {n lo hi : Int} : inI n lo hi = true ↔ lo ≤ n ∧ n ≤ hi := by unfold inI; simp
def seatsOk (p m : Int) : Bool := (p == 0 && m == 0) || (inI p 1 1048576 && inI m 1 16)
def sharesOk (l : Lv) : Bool := inI l.shares 0 10000 && (inI l.lend 0 100 && (l.borrow == -1 || inI l.borrow 0 1000))
def lanesOk (l : Lv) : Bool := inI l.queues 1 64 && (inI l.hand 1 8 && (inI l.length 1 64 && (inI l.wait 1 1000 && inI l.guess 1 1000)))
def noLanes (l : Lv) : Bool := l.queues == 0 && (l.hand == 0 && (l.length == 0 && (l.wait == 0 && l.guess == 0)))
def noShares (l : Lv) : Bool := l.shares == 0 && (l.lend == 0 && l.borrow == 0)
def lvOk (l : Lv) : Bool := isName l.name && (if l.kind = 1 then noShares l && noLanes l else if l.kind = 2 then sharesOk l && noLanes l else if l.kind = 3 then sharesOk l && lanesOk l else false)
def rlOk (r : Rl) : Bool := (rlJ r).all fun x => decide (x ≠ mk [])
def byIs (n : Int) : Bool := n == 0 || (n == 1 || n == 2)
def rlsOk (L : List Rl) : Bool := decide (L.length ≤ 8) && L.all rlOk
def scOk (s : Sc) : Bool := isName s.name && (isName s.level && (inI s.rank 1 10000 && (byIs s.way && rlsOk s.rules)))
def levelsOk (L : List Lv) : Bool := decide (L.length ≤ 16) && (L.all lvOk && decide (L.Pairwise fun a b => a.name ≠ b.name))
def schemasOk (L : List Sc) : Bool := decide (L.length ≤ 32) && (L.all scOk && decide (L.Pairwise fun a b => a.name ≠ b.name))
def formed (C : Cf) : Bool := inI C.total 0 4096 && (inI C.period 0 1000 && (seatsOk C.perSeat C.most && (levelsOk C.levels && schemasOk C.schemas)))

theorem rlOk_iff {r : Rl} : rlOk r = true ↔ joinB r.users ≠ mk [] ∧ joinB r.groups ≠ mk [] ∧ joinB r.verbs ≠ mk [] ∧ joinB r.resources ≠ mk [] ∧ joinB r.spaces ≠ mk [] := by
  unfold rlOk rlJ
  simp

/-! ### the text -/
def lineL (ws : List ByteArray) : List UInt8 := join (ws.map (·.data.toList)) [32]
def textL (Ws : List (List ByteArray)) : List UInt8 := Ws.flatMap fun ws => lineL ws ++ [10]
theorem textL_append (A B : List (List ByteArray)) : textL (A ++ B) = textL A ++ textL B := by unfold textL; rw [List.flatMap_append]
theorem textL_cons (x : List ByteArray) (B : List (List ByteArray)) : textL (x :: B) = (lineL x ++ [10]) ++ textL B := by unfold textL; rw [List.flatMap_cons]

/-- A word that may stand in a line. -/
structure Clean (x : ByteArray) : Prop where
  ne : x.data.toList ≠ []
  no32 : (32 : UInt8) ∉ x.data.toList
  no10 : (10 : UInt8) ∉ x.data.toList

theorem words_line {ws : List ByteArray} (h : ∀ x ∈ ws, Clean x) : wordsB (mk (lineL ws)) = ws := by
  unfold wordsB wordsL lineL
  rw [mk_list]
  cases ws with
  | nil => rfl
  | cons x r =>
    rw [List.map_cons, join_cons, cut_join 32 _ _ (h x (List.mem_cons_self ..)).no32 (fun y hy => by
      obtain ⟨z, hz, rfl⟩ := List.mem_map.1 hy
      exact (h z (List.mem_cons_of_mem _ hz)).no32), List.filter_eq_self.2 ?_, ← List.map_cons (f := fun x : ByteArray => x.data.toList), map_mk]
    intro y hy
    rw [← List.map_cons (f := fun x : ByteArray => x.data.toList)] at hy
    obtain ⟨z, hz, rfl⟩ := List.mem_map.1 hy
    have := (h z hz).ne
    unfold neL
    cases hzz : z.data.toList with
    | nil => exact absurd hzz this
    | cons _ _ => rfl

/-! ### lines of words, one after another -/
def runE (C : Cf) : List (List ByteArray) → Int
  | [] => 0
  | ws :: r => if lineE C ws = 0 then runE (lineC C ws) r else lineE C ws
def runC (C : Cf) : List (List ByteArray) → Cf
  | [] => C
  | ws :: r => if lineE C ws = 0 then runC (lineC C ws) r else cf0
theorem go_run : ∀ {Ws : List (List ByteArray)} {C : Cf}, (∀ ws ∈ Ws, ∀ x ∈ ws, Clean x) → goE C (Ws.map fun ws => mk (lineL ws)) = runE C Ws ∧ goC C (Ws.map fun ws => mk (lineL ws)) = runC C Ws
  | [], _, _ => ⟨rfl, rfl⟩
  | ws :: Ws, C, h => by
    have e := words_line (h ws (List.mem_cons_self ..))
    have ih := go_run (C := lineC C ws) (fun x hx => h x (List.mem_cons_of_mem _ hx))
    simp only [List.map_cons, goE, goC, runE, runC, e]
    rw [ih.1, ih.2]
    exact ⟨rfl, rfl⟩
/-- All lines may be, and lead from one configuration to another. -/
def Leads (C : Cf) (Ws : List (List ByteArray)) (D : Cf) : Prop := runE C Ws = 0 ∧ runC C Ws = D
theorem Leads.nil (C : Cf) : Leads C [] C := ⟨rfl, rfl⟩
theorem Leads.cons {C D : Cf} {ws : List ByteArray} {Ws : List (List ByteArray)} (h : lineE C ws = 0) (h2 : Leads (lineC C ws) Ws D) : Leads C (ws :: Ws) D := by
  unfold Leads runE runC
  rw [if_pos h, if_pos h]
  exact h2
theorem Leads.append : ∀ {A B : List (List ByteArray)} {C D E : Cf}, Leads C A D → Leads D B E → Leads C (A ++ B) E
  | [], B, C, D, E, h, h2 => by
    obtain rfl : C = D := h.2
    exact h2
  | ws :: A, B, C, D, E, h, h2 => by
    have h0 : lineE C ws = 0 := by
      cases Classical.em (lineE C ws = 0) with
      | inl e => exact e
      | inr e => exact absurd (by have := h.1; unfold runE at this; rw [if_neg e] at this; exact this) e
    have h1 : Leads (lineC C ws) A D := by
      unfold Leads runE runC at h
      rw [if_pos h0, if_pos h0] at h
      exact h
    exact Leads.cons h0 (Leads.append h1 h2)

end Go.Proofs.YtlkoaldekmdcoaaGreatDoor

namespace Go.Proofs.YtlkoaldekmdcoaaGreatDoor
open Go.Lib

theorem numD {n : Int} (h0 : 0 ≤ n) (h9 : n ≤ 999999999) {lo hi : Int} (h1 : lo ≤ n) (h2 : n ≤ hi) : numIn (digB n) lo hi = true ∧ numOf (digB n) lo hi = n := by
  obtain ⟨k, rfl⟩ : ∃ k : Nat, n = (k : Int) := ⟨n.toNat, by omega⟩
  obtain ⟨a, b⟩ := num_digits k (by omega) lo hi
  have c : (decide (lo ≤ (k : Int)) && decide ((k : Int) ≤ hi)) = true := by simp [h1, h2]
  rw [a, b, c]
  exact ⟨rfl, rfl⟩

/-! ### words that may stand in a line -/
theorem clean_name {x : ByteArray} (h : isName x = true) : Clean x := by
  unfold isName at h
  simp only [Bool.and_eq_true] at h
  have hall : ∀ b ∈ x.data.toList, isNameB (b.toNat : Int) = true := by
    have := h.2.1
    unfold allB at this
    exact fun b hb => List.all_eq_true.1 this b hb
  refine ⟨fun e => ?_, fun hm => ?_, fun hm => ?_⟩
  · have h3 := h.2.2
    have z : x.size = 0 := by rw [← size_list, e]; rfl
    rw [dif_neg (by omega)] at h3
    cases h3
  · have := hall 32 hm; revert this; decide
  · have := hall 10 hm; revert this; decide
theorem clean_dig (n : Int) : Clean (digB n) := by
  have hd := dec_digits (max n 0).toNat
  have hp := dec_pos (max n 0).toNat
  unfold digB
  refine ⟨?_, ?_, ?_⟩
  · rw [mk_list]; intro e; rw [e] at hp; simp at hp
  · rw [mk_list]; intro hm; have := (hd 32 hm).1; revert this; decide
  · rw [mk_list]; intro hm; have := (hd 10 hm).1; revert this; decide
theorem tail_noD {c d : UInt8} : ∀ {r : List (List UInt8)}, c ≠ d → (∀ y ∈ r, c ∉ y) → c ∉ joinTail [d] r
  | [], _, _ => by simp [joinTail]
  | y :: r, hc, h => by
    rw [tail_cons]
    intro hm
    rcases List.mem_cons.1 hm with e | hm
    · exact hc e
    · rcases List.mem_append.1 hm with hm | hm
      · exact h y (List.mem_cons_self ..) hm
      · exact tail_noD hc (fun z hz => h z (List.mem_cons_of_mem _ hz)) hm
theorem join_noD {c d : UInt8} {r : List (List UInt8)} (hc : c ≠ d) (h : ∀ y ∈ r, c ∉ y) : c ∉ join r [d] := by
  cases r with
  | nil => simp [join]
  | cons x r =>
    rw [join_cons]
    intro hm
    rcases List.mem_append.1 hm with hm | hm
    · exact h x (List.mem_cons_self ..) hm
    · exact tail_noD hc (fun z hz => h z (List.mem_cons_of_mem _ hz)) hm
theorem word_no {s : ByteArray} (h : isWord s = true) : (32 : UInt8) ∉ s.data.toList ∧ (10 : UInt8) ∉ s.data.toList := by
  rw [isWord_eq] at h
  simp only [Bool.and_eq_true, decide_eq_true_eq, Bool.not_eq_true', decide_eq_false_iff_not] at h
  obtain ⟨h1, h2, h3, h4⟩ := h
  have hall : ∀ b ∈ s.data.toList, isWordB (b.toNat : Int) = true := by
    unfold allB at h2
    exact fun b hb => List.all_eq_true.1 h2 b hb
  refine ⟨fun hm => ?_, fun hm => ?_⟩
  · have := hall 32 hm; revert this; decide
  · have := hall 10 hm; revert this; decide
theorem clean_join {L : List ByteArray} (h : joinB L ≠ mk []) : Clean (joinB L) := by
  unfold joinB at h ⊢
  by_cases h0 : L = []
  · rw [if_pos h0]; exact ⟨by decide, by decide, by decide⟩
  rw [if_neg h0] at h ⊢
  by_cases h1 : L = [mk [42]]
  · rw [if_pos h1]; exact ⟨by decide, by decide, by decide⟩
  rw [if_neg h1] at h ⊢
  cases hg : good L with
  | false => rw [hg] at h; exact absurd rfl h
  | true =>
    rw [hg] at h
    rw [if_pos rfl] at h ⊢
    have hw := good_words (good_iff.1 hg)
    refine ⟨fun e => h (by rw [mk_list] at e; rw [e]), ?_, ?_⟩
    · rw [mk_list]
      exact join_noD (by decide) (fun y hy => by obtain ⟨z, hz, rfl⟩ := List.mem_map.1 hy; exact (word_no (hw z hz)).1)
    · rw [mk_list]
      exact join_noD (by decide) (fun y hy => by obtain ⟨z, hz, rfl⟩ := List.mem_map.1 hy; exact (word_no (hw z hz)).2)
theorem clean_t : Clean tTotal ∧ Clean tPeriod ∧ Clean tSeats ∧ Clean tLevel ∧ Clean tSchema ∧ Clean tRule ∧ Clean tExempt ∧ Clean tReject ∧ Clean tQueue ∧ Clean tAll ∧ Clean tNone ∧ Clean tUser ∧ Clean tSpace := by
  refine ⟨?_, ?_, ?_, ?_, ?_, ?_, ?_, ?_, ?_, ?_, ?_, ?_, ?_⟩ <;> exact ⟨by decide, by decide, by decide⟩
theorem clean_bor (n : Int) : Clean (borW n) := by
  unfold borW
  split
  · exact clean_t.2.2.2.2.2.2.2.2.2.1
  · exact clean_dig n

/-! ### what may be printed -/
theorem lvOk_iff {l : Lv} : lvOk l = true ↔ isName l.name = true ∧ ((l.kind = 1 ∧ noShares l = true ∧ noLanes l = true) ∨ (l.kind = 2 ∧ sharesOk l = true ∧ noLanes l = true) ∨ (l.kind = 3 ∧ sharesOk l = true ∧ lanesOk l = true)) := by
  unfold lvOk
  rw [Bool.and_eq_true]
  refine and_congr Iff.rfl ?_
  by_cases h1 : l.kind = 1
  · rw [if_pos h1, Bool.and_eq_true, h1]
    simp
  rw [if_neg h1]
  by_cases h2 : l.kind = 2
  · rw [if_pos h2, Bool.and_eq_true, h2]
    simp
  rw [if_neg h2]
  by_cases h3 : l.kind = 3
  · rw [if_pos h3, Bool.and_eq_true, h3]
    simp
  rw [if_neg h3]
  simp [h1, h2, h3]
theorem noShares_iff {l : Lv} : noShares l = true ↔ l.shares = 0 ∧ l.lend = 0 ∧ l.borrow = 0 := by unfold noShares; simp
theorem noLanes_iff {l : Lv} : noLanes l = true ↔ l.queues = 0 ∧ l.hand = 0 ∧ l.length = 0 ∧ l.wait = 0 ∧ l.guess = 0 := by unfold noLanes; simp
theorem sharesOk_iff {l : Lv} : sharesOk l = true ↔ (0 ≤ l.shares ∧ l.shares ≤ 10000) ∧ (0 ≤ l.lend ∧ l.lend ≤ 100) ∧ (l.borrow = -1 ∨ (0 ≤ l.borrow ∧ l.borrow ≤ 1000)) := by
  unfold sharesOk; simp [inI_iff]
theorem lanesOk_iff {l : Lv} : lanesOk l = true ↔ (1 ≤ l.queues ∧ l.queues ≤ 64) ∧ (1 ≤ l.hand ∧ l.hand ≤ 8) ∧ (1 ≤ l.length ∧ l.length ≤ 64) ∧ (1 ≤ l.wait ∧ l.wait ≤ 1000) ∧ (1 ≤ l.guess ∧ l.guess ≤ 1000) := by
  unfold lanesOk; simp [inI_iff]
theorem byIs_iff {n : Int} : byIs n = true ↔ n = 0 ∨ n = 1 ∨ n = 2 := by unfold byIs; simp
theorem scOk_iff {s : Sc} : scOk s = true ↔ isName s.name = true ∧ isName s.level = true ∧ (1 ≤ s.rank ∧ s.rank ≤ 10000) ∧ (s.way = 0 ∨ s.way = 1 ∨ s.way = 2) ∧ s.rules.length ≤ 8 ∧ ∀ r ∈ s.rules, rlOk r = true := by
  unfold scOk rlsOk
  simp [inI_iff, byIs_iff]
theorem seatsOk_iff {p m : Int} : seatsOk p m = true ↔ (p = 0 ∧ m = 0) ∨ ((1 ≤ p ∧ p ≤ 1048576) ∧ (1 ≤ m ∧ m ≤ 16)) := by
  unfold seatsOk; simp [inI_iff]
structure Formed (C : Cf) : Prop where
  t : 0 ≤ C.total ∧ C.total ≤ 4096
  p : 0 ≤ C.period ∧ C.period ≤ 1000
  s : (C.perSeat = 0 ∧ C.most = 0) ∨ ((1 ≤ C.perSeat ∧ C.perSeat ≤ 1048576) ∧ (1 ≤ C.most ∧ C.most ≤ 16))
  nl : C.levels.length ≤ 16
  lv : ∀ l ∈ C.levels, lvOk l = true
  pl : C.levels.Pairwise fun a b => a.name ≠ b.name
  ns : C.schemas.length ≤ 32
  sc : ∀ s ∈ C.schemas, scOk s = true
  ps : C.schemas.Pairwise fun a b => a.name ≠ b.name
theorem formed_iff {C : Cf} : formed C = true ↔ Formed C := by
  unfold formed levelsOk schemasOk
  simp only [Bool.and_eq_true, inI_iff, seatsOk_iff, decide_eq_true_eq, List.all_eq_true]
  constructor
  · rintro ⟨a, b, c, ⟨d, e, f⟩, g, h, i⟩; exact ⟨a, b, c, d, e, f, g, h, i⟩
  · rintro ⟨a, b, c, d, e, f, g, h, i⟩; exact ⟨a, b, c, ⟨d, e, f⟩, g, h, i⟩

theorem clean_lv {l : Lv} (h : lvOk l = true) : ∀ x ∈ lvWs l, Clean x := by
  obtain ⟨hn, hk⟩ := lvOk_iff.1 h
  obtain ⟨c1, c2, c3, c4, c5, c6, c7, c8, c9, c10, c11, c12, c13⟩ := clean_t
  have cn := clean_name hn
  unfold lvWs
  rcases hk with ⟨k, _⟩ | ⟨k, _⟩ | ⟨k, _⟩
  · rw [if_pos k]
    intro x hx
    simp only [List.mem_cons, List.not_mem_nil, or_false] at hx
    rcases hx with rfl | rfl | rfl <;> assumption
  · rw [if_neg (by omega), if_pos k]
    intro x hx
    simp only [List.mem_cons, List.not_mem_nil, or_false] at hx
    rcases hx with rfl | rfl | rfl | rfl | rfl | rfl <;> first | assumption | exact clean_dig _ | exact clean_bor _
  · rw [if_neg (by omega), if_neg (by omega), if_pos k]
    intro x hx
    simp only [List.mem_cons, List.not_mem_nil, or_false] at hx
    rcases hx with rfl | rfl | rfl | rfl | rfl | rfl | rfl | rfl | rfl | rfl | rfl <;> first | assumption | exact clean_dig _ | exact clean_bor _
theorem clean_by {n : Int} (h : n = 0 ∨ n = 1 ∨ n = 2) : Clean (byW n) := by
  obtain ⟨c1, c2, c3, c4, c5, c6, c7, c8, c9, c10, c11, c12, c13⟩ := clean_t
  rcases h with rfl | rfl | rfl
  · exact c11
  · exact c12
  · exact c13
theorem clean_rl {r : Rl} (h : rlOk r = true) : ∀ x ∈ rlWs r, Clean x := by
  obtain ⟨h1, h2, h3, h4, h5⟩ := rlOk_iff.1 h
  intro x hx
  simp only [rlWs, rlJ, List.mem_cons, List.not_mem_nil, or_false] at hx
  rcases hx with rfl | rfl | rfl | rfl | rfl | rfl
  · exact clean_t.2.2.2.2.2.1
  · exact clean_join h1
  · exact clean_join h2
  · exact clean_join h3
  · exact clean_join h4
  · exact clean_join h5
theorem clean_sc {s : Sc} (h : scOk s = true) : ∀ ws ∈ scLs s, ∀ x ∈ ws, Clean x := by
  obtain ⟨h1, h2, h3, h4, h5, h6⟩ := scOk_iff.1 h
  intro ws hw x hx
  rcases List.mem_cons.1 hw with rfl | hw
  · simp only [scWs, List.mem_cons, List.not_mem_nil, or_false] at hx
    rcases hx with rfl | rfl | rfl | rfl | rfl
    · exact clean_t.2.2.2.2.1
    · exact clean_name h1
    · exact clean_name h2
    · exact clean_dig _
    · exact clean_by h4
  · obtain ⟨r, hr, rfl⟩ := List.mem_map.1 hw
    exact clean_rl (h6 r hr) x hx
theorem clean_cf {C : Cf} (h : Formed C) : ∀ ws ∈ cfWs C, ∀ x ∈ ws, Clean x := by
  obtain ⟨c1, c2, c3, c4, c5, c6, c7, c8, c9, c10, c11, c12, c13⟩ := clean_t
  intro ws hw x hx
  unfold cfWs numWs at hw
  rcases List.mem_append.1 hw with hw | hw
  · rcases List.mem_append.1 hw with hw | hw
    · split at hw
      · cases hw
      · obtain rfl := List.mem_singleton.1 hw
        simp only [List.mem_cons, List.not_mem_nil, or_false] at hx
        rcases hx with rfl | rfl
        · assumption
        · exact clean_dig _
    · rcases List.mem_append.1 hw with hw | hw
      · split at hw
        · cases hw
        · obtain rfl := List.mem_singleton.1 hw
          simp only [List.mem_cons, List.not_mem_nil, or_false] at hx
          rcases hx with rfl | rfl
          · assumption
          · exact clean_dig _
      · split at hw
        · cases hw
        · obtain rfl := List.mem_singleton.1 hw
          simp only [List.mem_cons, List.not_mem_nil, or_false] at hx
          rcases hx with rfl | rfl | rfl
          · assumption
          · exact clean_dig _
          · exact clean_dig _
  · rcases List.mem_append.1 hw with hw | hw
    · obtain ⟨l, hl, rfl⟩ := List.mem_map.1 hw
      exact clean_lv (h.lv l hl) x hx
    · obtain ⟨s, hs, hw⟩ := List.mem_flatMap.1 hw
      exact clean_sc (h.sc s hs) ws hw x hx

/-! ### line by line -/
theorem t_ne : tPeriod ≠ tTotal ∧ tSeats ≠ tTotal ∧ tSeats ≠ tPeriod ∧ tLevel ≠ tTotal ∧ tLevel ≠ tPeriod ∧ tLevel ≠ tSeats ∧ tSchema ≠ tTotal ∧ tSchema ≠ tPeriod ∧ tSchema ≠ tSeats ∧ tSchema ≠ tLevel ∧ tRule ≠ tTotal ∧ tRule ≠ tPeriod ∧ tRule ≠ tSeats ∧ tRule ≠ tLevel ∧ tRule ≠ tSchema := by decide
theorem loud {s : ByteArray} {r : List ByteArray} {C : Cf} (h : (s.data.toList.head? == some 35) = false) : lineE C (s :: r) = tellE C s r ∧ lineC C (s :: r) = tellC C s r := by
  have e : silent (s :: r) = false := h
  unfold lineE lineC
  rw [e]
  exact ⟨rfl, rfl⟩
theorem tell_total {C : Cf} {n : Int} (h1 : 1 ≤ n) (h2 : n ≤ 4096) (hC : C.total = 0) : lineE C [tTotal, digB n] = 0 ∧ lineC C [tTotal, digB n] = ⟨n, C.period, C.perSeat, C.most, C.levels, C.schemas⟩ := by
  obtain ⟨a, b⟩ := numD (by omega) (by omega) h1 h2
  obtain ⟨e1, e2⟩ := loud (s := tTotal) (r := [digB n]) (C := C) (by decide)
  rw [e1, e2]
  simp [tellE, tellC, totalE, gt, a, b, hC, mu, ifE]
theorem tell_period {C : Cf} {n : Int} (h1 : 1 ≤ n) (h2 : n ≤ 1000) (hC : C.period = 0) : lineE C [tPeriod, digB n] = 0 ∧ lineC C [tPeriod, digB n] = ⟨C.total, n, C.perSeat, C.most, C.levels, C.schemas⟩ := by
  obtain ⟨a, b⟩ := numD (by omega) (by omega) h1 h2
  obtain ⟨e1, e2⟩ := loud (s := tPeriod) (r := [digB n]) (C := C) (by decide)
  obtain ⟨n1, n2, n3, n4, n5, n6, n7, n8, n9, n10, n11, n12, n13, n14, n15⟩ := t_ne
  rw [e1, e2]
  simp [tellE, tellC, periodE, gt, a, b, hC, mu, ifE, n1]
theorem tell_seats {C : Cf} {n m : Int} (h1 : 1 ≤ n) (h2 : n ≤ 1048576) (h3 : 1 ≤ m) (h4 : m ≤ 16) (hC : C.perSeat = 0) : lineE C [tSeats, digB n, digB m] = 0 ∧ lineC C [tSeats, digB n, digB m] = ⟨C.total, C.period, n, m, C.levels, C.schemas⟩ := by
  obtain ⟨a, b⟩ := numD (by omega) (by omega) h1 h2
  obtain ⟨c, d⟩ := numD (by omega) (by omega) h3 h4
  obtain ⟨e1, e2⟩ := loud (s := tSeats) (r := [digB n, digB m]) (C := C) (by decide)
  obtain ⟨n1, n2, n3, n4, n5, n6, n7, n8, n9, n10, n11, n12, n13, n14, n15⟩ := t_ne
  rw [e1, e2]
  simp [tellE, tellC, seatsE, gt, a, b, c, d, hC, mu, ifE, n2, n3]
theorem dig_all (n : Int) : digB n ≠ tAll := fun e => by
  have hd := dec_digits (max n 0).toNat
  have e2 : decDigits (max n 0).toNat = [97, 108, 108] := by
    have := congrArg (fun s : ByteArray => s.data.toList) e
    simpa [digB, mk_list, tAll] using this
  have := (hd 97 (by rw [e2]; simp)).2
  revert this
  decide
theorem bor_back {n : Int} (h : n = -1 ∨ (0 ≤ n ∧ n ≤ 1000)) : borrowOk (borW n) = true ∧ borrowOf (borW n) = n := by
  rcases h with rfl | ⟨h1, h2⟩
  · exact ⟨rfl, rfl⟩
  · have e : borW n = digB n := by unfold borW; rw [if_neg (by omega)]
    unfold borrowOk borrowOf
    rw [e, if_neg (dig_all n), if_neg (dig_all n)]
    exact numD h1 (by omega) h1 h2
theorem has_no {C : Cf} {x : ByteArray} (h : ∀ l ∈ C.levels, l.name ≠ x) : hasLv C x = false := by
  unfold hasLv
  rw [List.any_eq_false]
  intro l hl
  simpa using h l hl
theorem hasS_no {C : Cf} {x : ByteArray} (h : ∀ l ∈ C.schemas, l.name ≠ x) : hasSc C x = false := by
  unfold hasSc
  rw [List.any_eq_false]
  intro l hl
  simpa using h l hl
theorem tell_level {C : Cf} {l : Lv} (h : lvOk l = true) (hn : ∀ x ∈ C.levels, x.name ≠ l.name) (hl : C.levels.length < 16) :
    lineE C (lvWs l) = 0 ∧ lineC C (lvWs l) = ⟨C.total, C.period, C.perSeat, C.most, C.levels ++ [l], C.schemas⟩ := by
  obtain ⟨h1, hk⟩ := lvOk_iff.1 h
  have hno := has_no hn
  obtain ⟨n1, n2, n3, n4, n5, n6, n7, n8, n9, n10, n11, n12, n13, n14, n15⟩ := t_ne
  have hl2 : (C.levels.length : Int) < 16 := by omega
  rcases l with ⟨name, kind, shares, lend, borrow, queues, hand, length, wait, guess⟩
  simp only at *
  rcases hk with ⟨rfl, ks, kl⟩ | ⟨rfl, ks, kl⟩ | ⟨rfl, ks, kl⟩
  · obtain ⟨s1, s2, s3⟩ := noShares_iff.1 ks
    obtain ⟨z1, z2, z3, z4, z5⟩ := noLanes_iff.1 kl
    simp only at *
    subst s1 s2 s3 z1 z2 z3 z4 z5
    have e : lvWs ⟨name, 1, 0, 0, 0, 0, 0, 0, 0, 0⟩ = [tLevel, name, tExempt] := rfl
    obtain ⟨e1, e2⟩ := loud (s := tLevel) (r := [name, tExempt]) (C := C) (by decide)
    have k1 : kindW [name, tExempt] = 1 := by simp [kindW, gt]
    rw [e, e1, e2]
    simp [tellE, tellC, levelE, levelW, levelOf, k1, gt, h1, hno, hl2, mu, ifE, n4, n5, n6]
  · obtain ⟨⟨s1, s2⟩, ⟨s3, s4⟩, s5⟩ := sharesOk_iff.1 ks
    obtain ⟨z1, z2, z3, z4, z5⟩ := noLanes_iff.1 kl
    simp only at *
    subst z1 z2 z3 z4 z5
    have e : lvWs ⟨name, 2, shares, lend, borrow, 0, 0, 0, 0, 0⟩ = [tLevel, name, digB shares, digB lend, borW borrow, tReject] := rfl
    obtain ⟨e1, e2⟩ := loud (s := tLevel) (r := [name, digB shares, digB lend, borW borrow, tReject]) (C := C) (by decide)
    have k1 : kindW [name, digB shares, digB lend, borW borrow, tReject] = 2 := by simp [kindW, gt]
    obtain ⟨a1, a2⟩ := numD s1 (by omega) s1 s2
    obtain ⟨b1, b2⟩ := numD s3 (by omega) s3 s4
    obtain ⟨c1, c2⟩ := bor_back s5
    rw [e, e1, e2]
    simp [tellE, tellC, levelE, levelW, levelOf, numsE, k1, gt, h1, hno, hl2, mu, ifE, n4, n5, n6, a1, a2, b1, b2, c1, c2]
  · obtain ⟨⟨s1, s2⟩, ⟨s3, s4⟩, s5⟩ := sharesOk_iff.1 ks
    obtain ⟨⟨z1, z2⟩, ⟨z3, z4⟩, ⟨z5, z6⟩, ⟨z7, z8⟩, ⟨z9, z0⟩⟩ := lanesOk_iff.1 kl
    simp only at *
    have e : lvWs ⟨name, 3, shares, lend, borrow, queues, hand, length, wait, guess⟩ = [tLevel, name, digB shares, digB lend, borW borrow, tQueue, digB queues, digB hand, digB length, digB wait, digB guess] := rfl
    obtain ⟨e1, e2⟩ := loud (s := tLevel) (r := [name, digB shares, digB lend, borW borrow, tQueue, digB queues, digB hand, digB length, digB wait, digB guess]) (C := C) (by decide)
    have k1 : kindW [name, digB shares, digB lend, borW borrow, tQueue, digB queues, digB hand, digB length, digB wait, digB guess] = 3 := by simp [kindW, gt]
    obtain ⟨a1, a2⟩ := numD s1 (by omega) s1 s2
    obtain ⟨b1, b2⟩ := numD s3 (by omega) s3 s4
    obtain ⟨c1, c2⟩ := bor_back s5
    obtain ⟨d1, d2⟩ := numD (by omega) (by omega) z1 z2
    obtain ⟨f1, f2⟩ := numD (by omega) (by omega) z3 z4
    obtain ⟨g1, g2⟩ := numD (by omega) (by omega) z5 z6
    obtain ⟨i1, i2⟩ := numD (by omega) (by omega) z7 z8
    obtain ⟨j1, j2⟩ := numD (by omega) (by omega) z9 z0
    rw [e, e1, e2]
    simp [tellE, tellC, levelE, levelW, levelOf, numsE, queueE, k1, gt, h1, hno, hl2, mu, ifE, n4, n5, n6, a1, a2, b1, b2, c1, c2, d1, d2, f1, f2, g1, g2, i1, i2, j1, j2]
theorem by_back {n : Int} (h : n = 0 ∨ n = 1 ∨ n = 2) : byOk (byW n) = true ∧ byOf (byW n) = n := by
  rcases h with rfl | rfl | rfl <;> decide
theorem tell_schema {C : Cf} {s : Sc} (h : scOk s = true) (hn : ∀ x ∈ C.schemas, x.name ≠ s.name) (hl : C.schemas.length < 32) :
    lineE C (scWs s) = 0 ∧ lineC C (scWs s) = ⟨C.total, C.period, C.perSeat, C.most, C.levels, C.schemas ++ [⟨s.name, s.level, s.rank, s.way, []⟩]⟩ := by
  obtain ⟨h1, h2, ⟨h3, h4⟩, h5, h6, h7⟩ := scOk_iff.1 h
  have hno := hasS_no hn
  obtain ⟨n1, n2, n3, n4, n5, n6, n7, n8, n9, n10, n11, n12, n13, n14, n15⟩ := t_ne
  have hl2 : (C.schemas.length : Int) < 32 := by omega
  obtain ⟨e1, e2⟩ := loud (s := tSchema) (r := [s.name, s.level, digB s.rank, byW s.way]) (C := C) (by decide)
  obtain ⟨a1, a2⟩ := numD (by omega) (by omega) h3 h4
  obtain ⟨b1, b2⟩ := by_back h5
  unfold scWs
  rw [e1, e2]
  simp [tellE, tellC, schemaE, schemaW, schemaOf, gt, h1, h2, hno, hl2, mu, ifE, n7, n8, n9, n10, a1, a2, b1, b2]
theorem addRule_snoc (r : Rl) (s : Sc) : ∀ S : List Sc, addRule r (S ++ [s]) = S ++ [withRule r s]
  | [] => rfl
  | [x] => rfl
  | x :: y :: S => by
    have := addRule_snoc r s (y :: S)
    show x :: addRule r (y :: (S ++ [s])) = _
    rw [← List.cons_append, this]
    rfl
theorem tell_rule {C : Cf} {r : Rl} {S : List Sc} {s : Sc} (h : rlOk r = true) (hC : C.schemas = S ++ [s]) (hl : s.rules.length < 8) :
    lineE C (rlWs r) = 0 ∧ lineC C (rlWs r) = ⟨C.total, C.period, C.perSeat, C.most, C.levels, S ++ [withRule r s]⟩ := by
  obtain ⟨h1, h2, h3, h4, h5⟩ := rlOk_iff.1 h
  obtain ⟨a1, a2⟩ := list_join _ h1
  obtain ⟨b1, b2⟩ := list_join _ h2
  obtain ⟨c1, c2⟩ := list_join _ h3
  obtain ⟨d1, d2⟩ := list_join _ h4
  obtain ⟨f1, f2⟩ := list_join _ h5
  obtain ⟨n1, n2, n3, n4, n5, n6, n7, n8, n9, n10, n11, n12, n13, n14, n15⟩ := t_ne
  obtain ⟨e1, e2⟩ := loud (s := tRule) (r := rlJ r) (C := C) (by decide)
  have hp : 0 < (C.schemas.length : Int) := by rw [hC]; simp
  have hr : lastRules C = s.rules := by unfold lastRules; rw [hC, List.getLast?_concat]
  have hl2 : (s.rules.length : Int) < 8 := by omega
  have ro : ruleOf (rlJ r) = r := by
    unfold ruleOf rlJ
    simp [gt, a2, b2, c2, d2, f2]
  have rw' : ruleW C (rlJ r) = 0 := by
    unfold ruleW
    have : decide (0 < (C.schemas.length : Int)) = true := by simpa using hp
    rw [this]
    simp [rlJ, gt, a1, b1, c1, d1, f1, mu, ifE]
  have e3 : tellE C tRule (rlJ r) = 0 := by
    simp only [tellE, if_neg n11, if_neg n12, if_neg n13, if_neg n14, if_neg n15]
    unfold ruleE
    rw [rw', hr, mu_zero]
    simp [ifE, hl2]
  have e4 : tellC C tRule (rlJ r) = ⟨C.total, C.period, C.perSeat, C.most, C.levels, S ++ [withRule r s]⟩ := by
    simp only [tellC, if_neg n11, if_neg n12, if_neg n13, if_neg n14, if_neg n15]
    rw [ro, hC, addRule_snoc]
  unfold rlWs
  rw [e1, e2]
  exact ⟨e3, e4⟩

theorem leads_rules {C : Cf} {S : List Sc} {n l : ByteArray} {k y : Int} : ∀ (rs R : List Rl), (∀ r ∈ rs, rlOk r = true) → R.length + rs.length ≤ 8 →
    Leads ⟨C.total, C.period, C.perSeat, C.most, C.levels, S ++ [⟨n, l, k, y, R⟩]⟩ (rs.map rlWs) ⟨C.total, C.period, C.perSeat, C.most, C.levels, S ++ [⟨n, l, k, y, R ++ rs⟩]⟩
  | [], R, _, _ => by rw [List.append_nil]; exact Leads.nil _
  | r :: rs, R, h, hl => by
    rw [List.length_cons] at hl
    obtain ⟨e1, e2⟩ := tell_rule (C := ⟨C.total, C.period, C.perSeat, C.most, C.levels, S ++ [⟨n, l, k, y, R⟩]⟩) (S := S) (s := ⟨n, l, k, y, R⟩) (h r (List.mem_cons_self ..)) rfl (by show R.length < 8; omega)
    have ih := leads_rules (C := C) (S := S) (n := n) (l := l) (k := k) (y := y) rs (R ++ [r]) (fun x hx => h x (List.mem_cons_of_mem _ hx)) (by rw [List.length_append]; simp; omega)
    rw [List.append_assoc, List.singleton_append] at ih
    refine Leads.cons e1 ?_
    rw [e2]
    exact ih
theorem leads_schemas {C : Cf} : ∀ (ss S : List Sc), (∀ s ∈ ss, scOk s = true) → (S ++ ss).Pairwise (fun a b => a.name ≠ b.name) → S.length + ss.length ≤ 32 →
    Leads ⟨C.total, C.period, C.perSeat, C.most, C.levels, S⟩ (ss.flatMap scLs) ⟨C.total, C.period, C.perSeat, C.most, C.levels, S ++ ss⟩
  | [], S, _, _, _ => by rw [List.append_nil]; exact Leads.nil _
  | s :: ss, S, h, hp, hl => by
    rw [List.length_cons] at hl
    have hs := h s (List.mem_cons_self ..)
    have hn : ∀ x ∈ S, x.name ≠ s.name := fun x hx => (List.pairwise_append.1 hp).2.2 x hx s (List.mem_cons_self ..)
    obtain ⟨e1, e2⟩ := tell_schema (C := ⟨C.total, C.period, C.perSeat, C.most, C.levels, S⟩) hs hn (by show S.length < 32; omega)
    have ih := leads_schemas (C := C) ss (S ++ [s]) (fun x hx => h x (List.mem_cons_of_mem _ hx)) (by rw [List.append_assoc, List.singleton_append]; exact hp) (by rw [List.length_append]; simp; omega)
    rw [List.append_assoc, List.singleton_append] at ih
    have hr := leads_rules (C := C) (S := S) (n := s.name) (l := s.level) (k := s.rank) (y := s.way) s.rules [] (scOk_iff.1 hs).2.2.2.2.2 (by simpa using (scOk_iff.1 hs).2.2.2.2.1)
    rw [List.flatMap_cons]
    unfold scLs
    rw [List.cons_append]
    refine Leads.cons e1 ?_
    rw [e2]
    exact Leads.append hr ih
theorem leads_levels {C : Cf} : ∀ (ls L : List Lv), (∀ l ∈ ls, lvOk l = true) → (L ++ ls).Pairwise (fun a b => a.name ≠ b.name) → L.length + ls.length ≤ 16 →
    Leads ⟨C.total, C.period, C.perSeat, C.most, L, C.schemas⟩ (ls.map lvWs) ⟨C.total, C.period, C.perSeat, C.most, L ++ ls, C.schemas⟩
  | [], L, _, _, _ => by rw [List.append_nil]; exact Leads.nil _
  | l :: ls, L, h, hp, hl => by
    rw [List.length_cons] at hl
    have hs := h l (List.mem_cons_self ..)
    have hn : ∀ x ∈ L, x.name ≠ l.name := fun x hx => (List.pairwise_append.1 hp).2.2 x hx l (List.mem_cons_self ..)
    obtain ⟨e1, e2⟩ := tell_level (C := ⟨C.total, C.period, C.perSeat, C.most, L, C.schemas⟩) hs hn (by show L.length < 16; omega)
    have ih := leads_levels (C := C) ls (L ++ [l]) (fun x hx => h x (List.mem_cons_of_mem _ hx)) (by rw [List.append_assoc, List.singleton_append]; exact hp) (by rw [List.length_append]; simp; omega)
    rw [List.append_assoc, List.singleton_append] at ih
    rw [List.map_cons]
    refine Leads.cons e1 ?_
    rw [e2]
    exact ih
theorem leads_nums {C : Cf} (h : Formed C) : Leads cf0 (numWs C) ⟨C.total, C.period, C.perSeat, C.most, [], []⟩ := by
  unfold numWs
  have a : Leads cf0 (if C.total = 0 then [] else [[tTotal, digB C.total]]) ⟨C.total, 0, 0, 0, [], []⟩ := by
    by_cases h0 : C.total = 0
    · rw [if_pos h0, h0]; exact Leads.nil _
    · rw [if_neg h0]
      obtain ⟨e1, e2⟩ := tell_total (C := cf0) (n := C.total) (by have := h.t; omega) h.t.2 rfl
      refine Leads.cons e1 ?_
      rw [e2]
      exact Leads.nil _
  have b : Leads ⟨C.total, 0, 0, 0, [], []⟩ (if C.period = 0 then [] else [[tPeriod, digB C.period]]) ⟨C.total, C.period, 0, 0, [], []⟩ := by
    by_cases h0 : C.period = 0
    · rw [if_pos h0, h0]; exact Leads.nil _
    · rw [if_neg h0]
      obtain ⟨e1, e2⟩ := tell_period (C := ⟨C.total, 0, 0, 0, [], []⟩) (n := C.period) (by have := h.p; omega) h.p.2 rfl
      refine Leads.cons e1 ?_
      rw [e2]
      exact Leads.nil _
  have c : Leads ⟨C.total, C.period, 0, 0, [], []⟩ (if C.perSeat = 0 then [] else [[tSeats, digB C.perSeat, digB C.most]]) ⟨C.total, C.period, C.perSeat, C.most, [], []⟩ := by
    by_cases h0 : C.perSeat = 0
    · have hm : C.most = 0 := by rcases h.s with ⟨_, e⟩ | ⟨e, _⟩ <;> omega
      rw [if_pos h0, h0, hm]; exact Leads.nil _
    · rw [if_neg h0]
      have hs : (1 ≤ C.perSeat ∧ C.perSeat ≤ 1048576) ∧ (1 ≤ C.most ∧ C.most ≤ 16) := by rcases h.s with ⟨e, _⟩ | e; exact absurd e h0; exact e
      obtain ⟨e1, e2⟩ := tell_seats (C := ⟨C.total, C.period, 0, 0, [], []⟩) hs.1.1 hs.1.2 hs.2.1 hs.2.2 rfl
      refine Leads.cons e1 ?_
      rw [e2]
      exact Leads.nil _
  exact Leads.append a (Leads.append b c)
theorem leads_cf {C : Cf} (h : Formed C) : Leads cf0 (cfWs C) C := by
  have b := leads_levels (C := ⟨C.total, C.period, C.perSeat, C.most, [], []⟩) C.levels [] h.lv (by simpa using h.pl) (by simpa using h.nl)
  have c := leads_schemas (C := C) C.schemas [] h.sc (by simpa using h.ps) (by simpa using h.ns)
  rw [List.nil_append] at b c
  exact Leads.append (leads_nums h) (Leads.append b c)

end Go.Proofs.YtlkoaldekmdcoaaGreatDoor

namespace Go.Proofs.YtlkoaldekmdcoaaGreatDoor
open Go.Lib

theorem num_back {s : ByteArray} {lo hi : Int} (h : numIn s lo hi = true) : digB (numOf s lo hi) = s ∧ lo ≤ numOf s lo hi ∧ numOf s lo hi ≤ hi := by
  have e : numOf s lo hi = (valL s.data.toList : Int) := by unfold numOf; rw [if_pos h]
  unfold numIn at h
  simp only [Bool.and_eq_true, decide_eq_true_eq] at h
  obtain ⟨h1, h2, h3⟩ := h
  obtain ⟨p1, p2, p3, p4⟩ := isNum_parts h1
  rw [e]
  exact ⟨(num_iff s p1 p2).1 h1, h2, h3⟩
theorem one_of {ws : List ByteArray} (h : ((ws.length : Int) == 1) = true) : ∃ x, ws = [x] := by
  match ws, h with
  | [x], _ => exact ⟨x, rfl⟩
  | [], h => simp at h
  | _ :: _ :: _, h => simp at h; omega
theorem two_of {ws : List ByteArray} (h : ((ws.length : Int) == 2) = true) : ∃ x y, ws = [x, y] := by
  match ws, h with
  | [x, y], _ => exact ⟨x, y, rfl⟩
  | [], h => simp at h
  | [_], h => simp at h
  | _ :: _ :: _ :: _, h => simp at h; omega
theorem len_of {ws : List ByteArray} {n : Nat} (h : ((ws.length : Int) == (n : Int)) = true) : ws.length = n := by
  have := eq_of_beq h
  omega
theorem e_zero {b : Bool} {x : Int} (hx : x ≠ 0) (h : ifE b x = 0) : b = true := (ifE_eq_zero hx).1 h
theorem bor_word {s : ByteArray} (h : borrowOk s = true) : borW (borrowOf s) = s ∧ (borrowOf s = -1 ∨ (0 ≤ borrowOf s ∧ borrowOf s ≤ 1000)) := by
  unfold borrowOk at h
  unfold borrowOf
  by_cases e : s = tAll
  · rw [if_pos e, e]
    exact ⟨rfl, .inl rfl⟩
  · rw [if_neg e] at h ⊢
    obtain ⟨a, b, c⟩ := num_back h
    refine ⟨?_, .inr ⟨b, c⟩⟩
    unfold borW
    rw [if_neg (by omega)]
    exact a
theorem by_word {s : ByteArray} (h : byOk s = true) : byW (byOf s) = s ∧ (byOf s = 0 ∨ byOf s = 1 ∨ byOf s = 2) := by
  unfold byOk at h
  simp only [Bool.or_eq_true, decide_eq_true_eq] at h
  rcases h with rfl | rfl | rfl <;> decide

/-- What a level's words tell, if they may be. -/
theorem level_words {ws : List ByteArray} (h : levelW ws = 0) : lvWs (levelOf ws) = tLevel :: ws ∧ lvOk (levelOf ws) = true ∧ (levelOf ws).name = gt ws 0 := by
  unfold levelW at h
  by_cases k0 : kindW ws = 0
  · rw [if_pos k0] at h; exact absurd h (by decide)
  rw [if_neg k0] at h
  by_cases k1 : kindW ws = 1
  · rw [if_pos k1] at h
    have hn := e_zero (by decide) h
    have e : levelOf ws = ⟨gt ws 0, 1, 0, 0, 0, 0, 0, 0, 0, 0⟩ := by unfold levelOf; rw [if_pos k1]
    obtain ⟨hl, hx⟩ : ws.length = 2 ∧ gt ws 1 = tExempt := by
      unfold kindW at k1
      split at k1
      · assumption
      · split at k1
        · exact absurd k1 (by decide)
        · split at k1 <;> exact absurd k1 (by decide)
    obtain ⟨x, y, rfl⟩ := two_of (by rw [hl]; rfl)
    obtain rfl : y = tExempt := hx
    rw [e]
    exact ⟨rfl, lvOk_iff.2 ⟨hn, .inl ⟨rfl, rfl, rfl⟩⟩, rfl⟩
  rw [if_neg k1] at h
  by_cases k2 : kindW ws = 2
  · rw [if_pos k2] at h
    unfold numsE at h
    simp only [mu_eq_zero] at h
    obtain ⟨⟨⟨h0, h1⟩, h2⟩, h3⟩ := h
    have e : levelOf ws = ⟨gt ws 0, 2, numOf (gt ws 1) 0 10000, numOf (gt ws 2) 0 100, borrowOf (gt ws 3), 0, 0, 0, 0, 0⟩ := by unfold levelOf; rw [if_neg k1, if_pos k2]
    obtain ⟨hl, hx⟩ : ws.length = 5 ∧ gt ws 4 = tReject := by
      unfold kindW at k2
      split at k2
      · exact absurd k2 (by decide)
      · split at k2
        · assumption
        · split at k2 <;> exact absurd k2 (by decide)
    match ws, hl with
    | [x0, x1, x2, x3, x4], _ =>
      obtain rfl : x4 = tReject := hx
      obtain ⟨a1, a2, a3⟩ := num_back (e_zero (by decide) h1)
      obtain ⟨b1, b2, b3⟩ := num_back (e_zero (by decide) h2)
      obtain ⟨c1, c2⟩ := bor_word (e_zero (by decide) h3)
      rw [e]
      refine ⟨?_, lvOk_iff.2 ⟨e_zero (by decide) h0, .inr (.inl ⟨rfl, sharesOk_iff.2 ⟨⟨a2, a3⟩, ⟨b2, b3⟩, c2⟩, rfl⟩)⟩, rfl⟩
      show [tLevel, gt [x0, x1, x2, x3, tReject] 0, digB (numOf (gt [x0, x1, x2, x3, tReject] 1) 0 10000), digB (numOf (gt [x0, x1, x2, x3, tReject] 2) 0 100), borW (borrowOf (gt [x0, x1, x2, x3, tReject] 3)), tReject] = _
      rw [a1, b1, c1]
      rfl
  · rw [if_neg k2] at h
    have k3 : kindW ws = 3 := by
      have : kindW ws = 0 ∨ kindW ws = 1 ∨ kindW ws = 2 ∨ kindW ws = 3 := by
        unfold kindW
        split
        · exact .inr (.inl rfl)
        · split
          · exact .inr (.inr (.inl rfl))
          · split
            · exact .inr (.inr (.inr rfl))
            · exact .inl rfl
      rcases this with e | e | e | e
      · exact absurd e k0
      · exact absurd e k1
      · exact absurd e k2
      · exact e
    unfold queueE numsE at h
    simp only [mu_eq_zero] at h
    obtain ⟨⟨⟨⟨⟨⟨⟨⟨h0, h1⟩, h2⟩, h3⟩, h5⟩, h6⟩, h7⟩, h8⟩, h9⟩ := h
    have e : levelOf ws = ⟨gt ws 0, 3, numOf (gt ws 1) 0 10000, numOf (gt ws 2) 0 100, borrowOf (gt ws 3), numOf (gt ws 5) 1 64, numOf (gt ws 6) 1 8, numOf (gt ws 7) 1 64, numOf (gt ws 8) 1 1000, numOf (gt ws 9) 1 1000⟩ := by unfold levelOf; rw [if_neg k1, if_neg k2]
    obtain ⟨hl, hx⟩ : ws.length = 10 ∧ gt ws 4 = tQueue := by
      unfold kindW at k3
      split at k3
      · exact absurd k3 (by decide)
      · split at k3
        · exact absurd k3 (by decide)
        · split at k3
          · assumption
          · exact absurd k3 (by decide)
    match ws, hl with
    | [x0, x1, x2, x3, x4, x5, x6, x7, x8, x9], _ =>
      obtain rfl : x4 = tQueue := hx
      obtain ⟨a1, a2, a3⟩ := num_back (e_zero (by decide) h1)
      obtain ⟨b1, b2, b3⟩ := num_back (e_zero (by decide) h2)
      obtain ⟨c1, c2⟩ := bor_word (e_zero (by decide) h3)
      obtain ⟨d1, d2, d3⟩ := num_back (e_zero (by decide) h5)
      obtain ⟨f1, f2, f3⟩ := num_back (e_zero (by decide) h6)
      obtain ⟨g1, g2, g3⟩ := num_back (e_zero (by decide) h7)
      obtain ⟨i1, i2, i3⟩ := num_back (e_zero (by decide) h8)
      obtain ⟨j1, j2, j3⟩ := num_back (e_zero (by decide) h9)
      rw [e]
      refine ⟨?_, lvOk_iff.2 ⟨e_zero (by decide) h0, .inr (.inr ⟨rfl, sharesOk_iff.2 ⟨⟨a2, a3⟩, ⟨b2, b3⟩, c2⟩, lanesOk_iff.2 ⟨⟨d2, d3⟩, ⟨f2, f3⟩, ⟨g2, g3⟩, ⟨i2, i3⟩, ⟨j2, j3⟩⟩⟩)⟩, rfl⟩
      simp only [gt, List.getD_cons_zero, List.getD_cons_succ] at a1 b1 c1 d1 f1 g1 i1 j1 ⊢
      unfold lvWs
      simp only [a1, b1, c1, d1, f1, g1, i1, j1]
      rfl
theorem schema_words {ws : List ByteArray} (h : schemaW ws = 0) : scWs (schemaOf ws) = tSchema :: ws ∧ scOk (schemaOf ws) = true ∧ (schemaOf ws).name = gt ws 0 := by
  unfold schemaW at h
  simp only [mu_eq_zero] at h
  obtain ⟨⟨⟨⟨h0, h1⟩, h2⟩, h3⟩, h4⟩ := h
  have hl := len_of (n := 4) (e_zero (by decide) h0)
  match ws, hl with
  | [x0, x1, x2, x3], _ =>
    obtain ⟨a1, a2, a3⟩ := num_back (e_zero (by decide) h3)
    obtain ⟨b1, b2⟩ := by_word (e_zero (by decide) h4)
    refine ⟨?_, scOk_iff.2 ⟨e_zero (by decide) h1, e_zero (by decide) h2, ⟨a2, a3⟩, b2, Nat.zero_le _, fun r hr => by cases hr⟩, rfl⟩
    unfold scWs schemaOf
    rw [a1, b1]
    rfl
theorem list_ne {s : ByteArray} (h : listOk s = true) : joinB (listOf s) ≠ mk [] := fun e => by
  rw [join_list s h] at e
  rw [e, no_list] at h
  cases h
theorem rule_words {C : Cf} {ws : List ByteArray} (h : ruleW C ws = 0) : rlWs (ruleOf ws) = tRule :: ws ∧ rlOk (ruleOf ws) = true ∧ C.schemas ≠ [] := by
  unfold ruleW at h
  simp only [mu_eq_zero] at h
  obtain ⟨⟨⟨⟨⟨h0, h1⟩, h2⟩, h3⟩, h4⟩, h5⟩ := h
  have hh := e_zero (by decide) h0
  rw [Bool.and_eq_true] at hh
  have hl := len_of (n := 5) hh.1
  have l1 := e_zero (by decide) h1
  have l2 := e_zero (by decide) h2
  have l3 := e_zero (by decide) h3
  have l4 := e_zero (by decide) h4
  have l5 := e_zero (by decide) h5
  match ws, hl with
  | [x0, x1, x2, x3, x4], _ =>
    refine ⟨?_, rlOk_iff.2 ⟨list_ne l1, list_ne l2, list_ne l3, list_ne l4, list_ne l5⟩, fun e => ?_⟩
    · unfold rlWs rlJ ruleOf
      dsimp only
      rw [join_list _ l1, join_list _ l2, join_list _ l3, join_list _ l4, join_list _ l5]
      rfl
    · have := hh.2
      rw [e] at this
      exact absurd this (by decide)

theorem pair_snoc {α : Type} {R : α → α → Prop} {L : List α} {x : α} (h : L.Pairwise R) (hx : ∀ y ∈ L, R y x) : (L ++ [x]).Pairwise R :=
  List.pairwise_append.2 ⟨h, List.pairwise_singleton _ _, fun a ha b hb => by rw [List.mem_singleton.1 hb]; exact hx a ha⟩
theorem has_none {C : Cf} {x : ByteArray} (h : hasLv C x = false) : ∀ l ∈ C.levels, l.name ≠ x := fun l hl e => by
  unfold hasLv at h
  rw [List.any_eq_false] at h
  exact absurd (by simpa using e) (h l hl)
theorem hasS_none {C : Cf} {x : ByteArray} (h : hasSc C x = false) : ∀ l ∈ C.schemas, l.name ≠ x := fun l hl e => by
  unfold hasSc at h
  rw [List.any_eq_false] at h
  exact absurd (by simpa using e) (h l hl)
theorem snoc_of {α : Type} {L : List α} (h : L ≠ []) : ∃ I x, L = I ++ [x] := ⟨L.dropLast, L.getLast h, (List.dropLast_concat_getLast h).symm⟩

/-- One more line that may be: its words stand among those that are printed, and all may be printed, still. -/
theorem tell_put {C : Cf} {s : ByteArray} {ws : List ByteArray} (h : tellE C s ws = 0) (hC : Formed C) : (∃ A B, cfWs C = A ++ B ∧ cfWs (tellC C s ws) = A ++ (s :: ws) :: B) ∧ Formed (tellC C s ws) := by
  unfold tellE at h
  unfold tellC
  by_cases t0 : s = tTotal
  · subst t0
    rw [if_pos rfl] at h ⊢
    unfold totalE at h
    simp only [mu_eq_zero] at h
    obtain ⟨⟨h1, h2⟩, h3⟩ := h
    obtain ⟨x, rfl⟩ := one_of (e_zero (by decide) h1)
    obtain ⟨a1, a2, a3⟩ := num_back (e_zero (by decide) h2)
    have z : C.total = 0 := by simpa using e_zero (by decide) h3
    have e0 : gt [x] 0 = x := rfl
    rw [e0] at a1 a2 a3 ⊢
    refine ⟨⟨[], cfWs C, rfl, ?_⟩, ⟨⟨by show (0 : Int) ≤ numOf x 1 4096; omega, a3⟩, hC.p, hC.s, hC.nl, hC.lv, hC.pl, hC.ns, hC.sc, hC.ps⟩⟩
    unfold cfWs numWs
    dsimp only
    rw [if_neg (by omega), a1, if_pos z]
    rfl
  rw [if_neg t0] at h ⊢
  by_cases t1 : s = tPeriod
  · subst t1
    rw [if_pos rfl] at h ⊢
    unfold periodE at h
    simp only [mu_eq_zero] at h
    obtain ⟨⟨h1, h2⟩, h3⟩ := h
    obtain ⟨x, rfl⟩ := one_of (e_zero (by decide) h1)
    obtain ⟨a1, a2, a3⟩ := num_back (e_zero (by decide) h2)
    have z : C.period = 0 := by simpa using e_zero (by decide) h3
    have e0 : gt [x] 0 = x := rfl
    rw [e0] at a1 a2 a3 ⊢
    refine ⟨⟨if C.total = 0 then [] else [[tTotal, digB C.total]], (if C.perSeat = 0 then [] else [[tSeats, digB C.perSeat, digB C.most]]) ++ (C.levels.map lvWs ++ C.schemas.flatMap scLs), ?_, ?_⟩, ⟨hC.t, ⟨by show (0 : Int) ≤ numOf x 1 1000; omega, a3⟩, hC.s, hC.nl, hC.lv, hC.pl, hC.ns, hC.sc, hC.ps⟩⟩
    · unfold cfWs numWs
      rw [if_pos z, List.nil_append, List.append_assoc]
    · unfold cfWs numWs
      dsimp only
      rw [if_neg (show ¬ numOf x 1 1000 = 0 by omega), a1]
      simp
  rw [if_neg t1] at h ⊢
  by_cases t2 : s = tSeats
  · subst t2
    rw [if_pos rfl] at h ⊢
    unfold seatsE at h
    simp only [mu_eq_zero] at h
    obtain ⟨⟨⟨h1, h2⟩, h4⟩, h3⟩ := h
    obtain ⟨x, y, rfl⟩ := two_of (e_zero (by decide) h1)
    obtain ⟨a1, a2, a3⟩ := num_back (e_zero (by decide) h2)
    obtain ⟨b1, b2, b3⟩ := num_back (e_zero (by decide) h4)
    have z : C.perSeat = 0 := by simpa using e_zero (by decide) h3
    have e0 : gt [x, y] 0 = x := rfl
    have e1 : gt [x, y] 1 = y := rfl
    rw [e0] at a1 a2 a3
    rw [e1] at b1 b2 b3
    rw [e0, e1]
    refine ⟨⟨(if C.total = 0 then [] else [[tTotal, digB C.total]]) ++ (if C.period = 0 then [] else [[tPeriod, digB C.period]]), C.levels.map lvWs ++ C.schemas.flatMap scLs, ?_, ?_⟩, ⟨hC.t, hC.p, .inr ⟨⟨a2, a3⟩, ⟨b2, b3⟩⟩, hC.nl, hC.lv, hC.pl, hC.ns, hC.sc, hC.ps⟩⟩
    · unfold cfWs numWs
      rw [if_pos z, List.append_nil]
    · unfold cfWs numWs
      dsimp only
      rw [if_neg (show ¬ numOf x 1 1048576 = 0 by omega), a1, b1]
      simp
  rw [if_neg t2] at h ⊢
  by_cases t3 : s = tLevel
  · subst t3
    rw [if_pos rfl] at h ⊢
    unfold levelE at h
    simp only [mu_eq_zero] at h
    obtain ⟨⟨h1, h2⟩, h3⟩ := h
    obtain ⟨a1, a2, a3⟩ := level_words h1
    have hno : hasLv C (gt ws 0) = false := by simpa using e_zero (by decide) h2
    have hlen : C.levels.length < 16 := by have := e_zero (by decide) h3; simp at this; omega
    refine ⟨⟨numWs C ++ C.levels.map lvWs, C.schemas.flatMap scLs, ?_, ?_⟩, ⟨hC.t, hC.p, hC.s, ?_, ?_, ?_, hC.ns, hC.sc, hC.ps⟩⟩
    · unfold cfWs; rw [List.append_assoc]
    · unfold cfWs
      show numWs C ++ ((C.levels ++ [levelOf ws]).map lvWs ++ C.schemas.flatMap scLs) = _
      rw [List.map_append, List.map_cons, a1]
      simp
    · show (C.levels ++ [levelOf ws]).length ≤ 16
      rw [List.length_append]; simp; omega
    · intro l hl
      rcases List.mem_append.1 hl with hl | hl
      · exact hC.lv l hl
      · rw [List.mem_singleton.1 hl]; exact a2
    · exact pair_snoc hC.pl (fun y hy => by rw [a3]; exact has_none hno y hy)
  rw [if_neg t3] at h ⊢
  by_cases t4 : s = tSchema
  · subst t4
    rw [if_pos rfl] at h ⊢
    unfold schemaE at h
    simp only [mu_eq_zero] at h
    obtain ⟨⟨h1, h2⟩, h3⟩ := h
    obtain ⟨a1, a2, a3⟩ := schema_words h1
    have hno : hasSc C (gt ws 0) = false := by simpa using e_zero (by decide) h2
    have hlen : C.schemas.length < 32 := by have := e_zero (by decide) h3; simp at this; omega
    refine ⟨⟨cfWs C, [], (List.append_nil _).symm, ?_⟩, ⟨hC.t, hC.p, hC.s, hC.nl, hC.lv, hC.pl, ?_, ?_, ?_⟩⟩
    · unfold cfWs
      show numWs C ++ (C.levels.map lvWs ++ (C.schemas ++ [schemaOf ws]).flatMap scLs) = _
      rw [List.flatMap_append, List.flatMap_cons, List.flatMap_nil, List.append_nil]
      have : scLs (schemaOf ws) = [tSchema :: ws] := by unfold scLs; rw [a1]; rfl
      rw [this]
      simp
    · show (C.schemas ++ [schemaOf ws]).length ≤ 32
      rw [List.length_append]; simp; omega
    · intro l hl
      rcases List.mem_append.1 hl with hl | hl
      · exact hC.sc l hl
      · rw [List.mem_singleton.1 hl]; exact a2
    · exact pair_snoc hC.ps (fun y hy => by rw [a3]; exact hasS_none hno y hy)
  rw [if_neg t4] at h ⊢
  by_cases t5 : s = tRule
  · subst t5
    rw [if_pos rfl] at h
    unfold ruleE at h
    simp only [mu_eq_zero] at h
    obtain ⟨h1, h3⟩ := h
    obtain ⟨a1, a2, a3⟩ := rule_words h1
    obtain ⟨I, x, hI⟩ := snoc_of a3
    have hlr : lastRules C = x.rules := by unfold lastRules; rw [hI, List.getLast?_concat]
    have hlen : x.rules.length < 8 := by have := e_zero (by decide) h3; rw [hlr] at this; simp at this; omega
    have hx := hC.sc x (by rw [hI]; simp)
    have hadd : addRule (ruleOf ws) C.schemas = I ++ [withRule (ruleOf ws) x] := by rw [hI, addRule_snoc]
    rw [hadd]
    refine ⟨⟨cfWs C, [], (List.append_nil _).symm, ?_⟩, ⟨hC.t, hC.p, hC.s, hC.nl, hC.lv, hC.pl, ?_, ?_, ?_⟩⟩
    · unfold cfWs
      show numWs C ++ (C.levels.map lvWs ++ (I ++ [withRule (ruleOf ws) x]).flatMap scLs) = _
      rw [hI, List.flatMap_append, List.flatMap_append, List.flatMap_cons, List.flatMap_nil, List.append_nil, List.flatMap_cons, List.flatMap_nil, List.append_nil]
      have : scLs (withRule (ruleOf ws) x) = scLs x ++ [tRule :: ws] := by
        show scWs x :: (x.rules ++ [ruleOf ws]).map rlWs = _
        rw [List.map_append, List.map_cons, a1]
        rfl
      rw [this]
      simp
    · have := hC.ns
      rw [hI] at this
      simpa using this
    · intro l hl
      rcases List.mem_append.1 hl with hl | hl
      · exact hC.sc l (by rw [hI]; exact List.mem_append_left _ hl)
      · rw [List.mem_singleton.1 hl]
        obtain ⟨p1, p2, p3, p4, p5, p6⟩ := scOk_iff.1 hx
        refine scOk_iff.2 ⟨p1, p2, p3, p4, ?_, ?_⟩
        · show (x.rules ++ [ruleOf ws]).length ≤ 8
          rw [List.length_append]; simp; omega
        · intro r hr
          rcases List.mem_append.1 hr with hr | hr
          · exact p6 r hr
          · rw [List.mem_singleton.1 hr]; exact a2
    · have := hC.ps
      rw [hI] at this
      exact List.pairwise_append.2 ⟨(List.pairwise_append.1 this).1, List.pairwise_singleton _ _, fun a ha b hb => by
        rw [List.mem_singleton.1 hb]
        exact (List.pairwise_append.1 this).2.2 a ha x (by simp)⟩
  · rw [if_neg t5] at h
    exact absurd h (by decide)

theorem formed0 : Formed cf0 := ⟨(by decide), (by decide), .inl ⟨rfl, rfl⟩, (by decide), fun _ h => (by cases h), List.Pairwise.nil, (by decide), fun _ h => (by cases h), List.Pairwise.nil⟩

/-! ### how long it is -/
theorem tail_sum (c : UInt8) : ∀ L : List (List UInt8), (joinTail [c] L).length = (L.map fun x => x.length + 1).sum
  | [] => rfl
  | x :: L => by rw [tail_cons, List.length_cons, List.length_append, tail_sum c L]; simp; omega
theorem join_sum (c : UInt8) {L : List (List UInt8)} (h : L ≠ []) : (join L [c]).length + 1 = (L.map fun x => x.length + 1).sum := by
  cases L with
  | nil => exact absurd rfl h
  | cons x r => rw [join_cons, List.length_append, tail_sum]; simp; omega
theorem filter_sum : ∀ L : List (List UInt8), ((L.filter neL).map fun x => x.length + 1).sum ≤ (L.map fun x => x.length + 1).sum
  | [] => Nat.le_refl _
  | x :: L => by
    have := filter_sum L
    rw [List.filter_cons]
    split <;> simp <;> omega
theorem line_len (s : ByteArray) : (lineL (wordsB s)).length ≤ s.size := by
  have e : (wordsB s).map (·.data.toList) = wordsL s.data.toList := by
    unfold wordsB
    rw [List.map_map]
    have : ((fun x : ByteArray => x.data.toList) ∘ mk) = id := by funext x; exact mk_list x
    rw [this, List.map_id]
  unfold lineL
  rw [e]
  by_cases h : wordsL s.data.toList = []
  · rw [h]; exact Nat.zero_le _
  · have h1 := join_sum 32 h
    have h2 := filter_sum (cutL 32 s.data.toList)
    have h3 := join_sum 32 (cutL_ne 32 s.data.toList)
    rw [join_cut, size_list] at h3
    unfold wordsL at h1 ⊢
    omega
/-- How long lines are, each with its newline. -/
def lnSum (L : List ByteArray) : Nat := (L.map fun x => x.size + 1).sum
theorem put_len {A B : List (List ByteArray)} {ws : List ByteArray} : (textL (A ++ ws :: B)).length = (textL (A ++ B)).length + (lineL ws).length + 1 := by
  rw [textL_append, textL_append, textL_cons]
  simp only [List.length_append, List.length_cons, List.length_nil]
  omega
theorem silent_cons {ws : List ByteArray} (h : silent ws = false) : ∃ s r, ws = s :: r := by
  cases ws with
  | nil => cases h
  | cons s r => exact ⟨s, r, rfl⟩
theorem go_formed : ∀ (L : List ByteArray) (C : Cf), Formed C → goE C L = 0 → Formed (goC C L) ∧ (textL (cfWs (goC C L))).length ≤ (textL (cfWs C)).length + lnSum L
  | [], C, hC, _ => ⟨hC, Nat.le_refl _⟩
  | l :: r, C, hC, h => by
    unfold goE at h
    unfold goC
    by_cases e : lineE C (wordsB l) = 0
    · rw [if_pos e] at h ⊢
      have hs : lnSum (l :: r) = l.size + 1 + lnSum r := by unfold lnSum; simp
      cases hsil : silent (wordsB l) with
      | true =>
        have ec : lineC C (wordsB l) = C := by unfold lineC; rw [hsil]; rfl
        rw [ec] at h ⊢
        obtain ⟨a, b⟩ := go_formed r C hC h
        exact ⟨a, by omega⟩
      | false =>
        have len := line_len l
        obtain ⟨s, t, hw⟩ := silent_cons hsil
        have e1 : lineE C (wordsB l) = tellE C s t := by unfold lineE; rw [hsil, hw]; rfl
        have e2 : lineC C (wordsB l) = tellC C s t := by unfold lineC; rw [hsil, hw]; rfl
        rw [e1] at e
        rw [e2] at h ⊢
        obtain ⟨⟨A, B, q1, q2⟩, q3⟩ := tell_put e hC
        obtain ⟨a, b⟩ := go_formed r _ q3 h
        refine ⟨a, ?_⟩
        rw [q2, put_len, ← q1, ← hw] at b
        omega
    · rw [if_neg e] at h; exact absurd h e
end Go.Proofs.YtlkoaldekmdcoaaGreatDoor
