/-
  How a configuration is printed, and when it may be: the mathematics.
-/
import Derived.Test.YtijjpblmnlednaaGreatDoorE3
import Derived.Test.YtijjpblmnlednaaGreatDoorE5
import Derived.Test.YtijjpblmnlednaaGreatDoorE4
namespace Go.Proofs.YtijjpblmnlednaaGreatDoor
open Go.Lib
theorem cutL_app (c : UInt8) (b : List UInt8) : ∀ a : List UInt8, cutL c (a ++ c :: b) = cutL c a ++ cutL c b
  | [] => by rw [List.nil_append, cutL_cons, if_pos rfl]; rfl
  | x :: a => by
    have ih := cutL_app c b a
    rw [List.cons_append, cutL_cons, cutL_cons, ih]
    by_cases h : x = c
    · rw [if_pos h, if_pos h]; rfl
    · rw [if_neg h, if_neg h]
      have hne := cutL_ne c a
      cases hc : cutL c a with
      | nil => exact absurd hc hne
      | cons y t => rfl
theorem cut_join (c : UInt8) : ∀ (r : List (List UInt8)) (x : List UInt8), c ∉ x → (∀ y ∈ r, c ∉ y) → cutL c (x ++ joinTail [c] r) = x :: r
  | [], x, hx, _ => by
    have : joinTail [c] [] = [] := rfl
    rw [this, List.append_nil, cutL_plain c x hx]
  | y :: r, x, hx, hr => by
    rw [tail_cons, cutL_at c x _ hx, cut_join c r y (hr y (List.mem_cons_self ..)) (fun z hz => hr z (List.mem_cons_of_mem _ hz))]

/-- The word of a list; the empty text, if there is none. -/
def joinB (L : List ByteArray) : ByteArray := if L = [] then mk [45] else if L = [mk [42]] then mk [42] else if good L then mk (join (L.map (·.data.toList)) [44]) else mk []

theorem map_mk (L : List ByteArray) : (L.map (·.data.toList)).map mk = L := by
  rw [List.map_map]
  have : (mk ∘ fun x : ByteArray => x.data.toList) = id := by funext x; exact mk_of x
  rw [this, List.map_id]
theorem join_back {L : List ByteArray} (h : Good L) (hne : L ≠ []) : cutB 44 (mk (join (L.map (·.data.toList)) [44])) = L := by
  have hw := good_words h
  cases L with
  | nil => exact absurd rfl hne
  | cons x r =>
    unfold cutB
    rw [mk_list, List.map_cons, join_cons, cut_join 44 _ _ (word_comma (hw x (List.mem_cons_self ..))) (fun y hy => by
      obtain ⟨z, hz, rfl⟩ := List.mem_map.1 hy
      exact word_comma (hw z (List.mem_cons_of_mem _ hz))), List.map_cons, mk_of, map_mk]

/-- A list is read as it was joined. -/
theorem list_join (L : List ByteArray) (h : joinB L ≠ mk []) : listOk (joinB L) = true ∧ listOf (joinB L) = L := by
  unfold joinB at h ⊢
  by_cases h0 : L = []
  · rw [if_pos h0]
    unfold listOk listOf
    rw [if_pos rfl, if_pos rfl, h0]
    exact ⟨rfl, rfl⟩
  rw [if_neg h0] at h ⊢
  by_cases h1 : L = [mk [42]]
  · rw [if_pos h1]
    unfold listOk listOf
    rw [if_neg (by decide), if_pos rfl, if_neg (by decide), if_pos rfl, h1]
    exact ⟨rfl, rfl⟩
  rw [if_neg h1] at h ⊢
  cases hg : good L with
  | false => rw [hg] at h; exact absurd rfl h
  | true =>
    rw [if_pos rfl]
    have hG := good_iff.1 hg
    have hb := join_back hG h0
    have n1 : mk (join (L.map (·.data.toList)) [44]) ≠ mk [45] := fun e => by
      rw [e, show cutB 44 (mk [45]) = [mk [45]] from rfl] at hb
      have := good_words hG (mk [45]) (by rw [← hb]; simp)
      rw [dash_no] at this
      cases this
    have n2 : mk (join (L.map (·.data.toList)) [44]) ≠ mk [42] := fun e => by
      rw [e, show cutB 44 (mk [42]) = [mk [42]] from rfl] at hb
      exact h1 hb.symm
    unfold listOk listOf
    rw [if_neg n1, if_neg n2, if_neg n1, if_neg n2, hb, hg]
    exact ⟨rfl, rfl⟩

/-- A list is joined as it was read. -/
theorem join_list (s : ByteArray) (h : listOk s = true) : joinB (listOf s) = s := by
  unfold listOk at h
  unfold listOf
  by_cases h0 : s = mk [45]
  · rw [if_pos h0]
    unfold joinB
    rw [if_pos rfl, h0]
  rw [if_neg h0] at h ⊢
  by_cases h1 : s = mk [42]
  · rw [if_pos h1]
    unfold joinB
    rw [if_neg (by simp), if_pos rfl, h1]
  rw [if_neg h1] at h ⊢
  rw [if_pos h]
  have hG := good_iff.1 h
  unfold joinB
  rw [if_neg (by unfold cutB; intro e; exact cutL_ne 44 _ (List.map_eq_nil_iff.1 e)), if_neg (fun e => by
    have := good_words hG (mk [42]) (by rw [e]; simp)
    rw [star_no] at this
    cases this), if_pos h]
  unfold cutB
  rw [List.map_map]
  have : ((fun x : ByteArray => x.data.toList) ∘ mk) = id := by funext x; exact mk_list x
  rw [this, List.map_id, join_cut, mk_of]
theorem no_list : listOk (mk []) = false := by
  unfold listOk
  rw [if_neg (by decide), if_neg (by decide), show cutB 44 (mk []) = [mk []] from rfl]
  cases h : good [mk []] with
  | false => rfl
  | true =>
    have := good_words (good_iff.1 h) (mk []) (by simp)
    rw [isWord_eq] at this
    revert this
    decide

/-! ### the words of the lines -/
def numWs (C : Cf) : List (List ByteArray) :=
  (if C.total = 0 then [] else [[tTotal, digB C.total]]) ++ ((if C.period = 0 then [] else [[tPeriod, digB C.period]]) ++ (if C.perSeat = 0 then [] else [[tSeats, digB C.perSeat, digB C.most]]))
def borW (n : Int) : ByteArray := if n = -1 then tAll else digB n
def lvWs (l : Lv) : List ByteArray :=
  if l.kind = 1 then [tLevel, l.name, tExempt]
  else if l.kind = 2 then [tLevel, l.name, digB l.shares, digB l.lend, borW l.borrow, tReject]
  else if l.kind = 3 then [tLevel, l.name, digB l.shares, digB l.lend, borW l.borrow, tQueue, digB l.queues, digB l.hand, digB l.length, digB l.wait, digB l.guess]
  else [tLevel, l.name]
def byW (n : Int) : ByteArray := if n = 0 then tNone else if n = 1 then tUser else if n = 2 then tSpace else mk []
def scWs (s : Sc) : List ByteArray := [tSchema, s.name, s.level, digB s.rank, byW s.way]
def rlJ (r : Rl) : List ByteArray := [joinB r.users, joinB r.groups, joinB r.verbs, joinB r.resources, joinB r.spaces]
def rlWs (r : Rl) : List ByteArray := tRule :: rlJ r
def scLs (s : Sc) : List (List ByteArray) := scWs s :: s.rules.map rlWs
def cfWs (C : Cf) : List (List ByteArray) := numWs C ++ (C.levels.map lvWs ++ C.schemas.flatMap scLs)

/-! ### what may be printed -/
def inI (n lo hi : Int) : Bool := decide (lo ≤ n) && decide (n ≤ hi)
theorem inI_iff {n lo hi : Int} : inI n lo hi = true ↔ lo ≤ n ∧ n ≤ hi := by unfold inI; simp
def seatsOk (p m : Int) : Bool := (p == 0 && m == 0) || (inI p 1 1048576 && inI m 1 16)
def sharesOk (l : Lv) : Bool := inI l.shares 0 10000 && (inI l.lend 0 100 && (l.borrow == -1 || inI l.borrow 0 1000))
def lanesOk (l : Lv) : Bool := inI l.queues 1 64 && (inI l.hand 1 8 && (inI l.length 1 64 && (inI l.wait 1 1000 && inI l.guess 1 1000)))
def noLanes (l : Lv) : Bool := l.queues == 0 && (l.hand == 0 && (l.length == 0 && (l.wait == 0 && l.guess == 0)))
def noShares (l : Lv) : Bool := l.shares == 0 && (l.lend == 0 && l.borrow == 0)
def lvOk (l : Lv) : Bool := isName l.name && (if l.kind = 1 then noShares l && noLanes l else if l.kind = 2 then sharesOk l && noLanes l else if l.kind = 3 then sharesOk l && lanesOk l else false)
def rlOk (r : Rl) : Bool := (rlJ r).all fun x => decide (x ≠ mk [])
def byIs (n : Int) : Bool := n == 0 || (n == 1 || n == 2)
def rlsOk (L : List Rl) : Bool := decide (L.length ≤ 8) && L.all rlOk
def scOk (s : Sc) : Bool := isName s.name && (isName s.level && (inI s.rank 1 10000 && (byIs s.way && rlsOk s.rules)))
def levelsOk (L : List Lv) : Bool := decide (L.length ≤ 16) && (L.all lvOk && decide (L.Pairwise fun a b => a.name ≠ b.name))
def schemasOk (L : List Sc) : Bool := decide (L.length ≤ 32) && (L.all scOk && decide (L.Pairwise fun a b => a.name ≠ b.name))
def formed (C : Cf) : Bool := inI C.total 0 4096 && (inI C.period 0 1000 && (seatsOk C.perSeat C.most && (levelsOk C.levels && schemasOk C.schemas)))

theorem rlOk_iff {r : Rl} : rlOk r = true ↔ joinB r.users ≠ mk [] ∧ joinB r.groups ≠ mk [] ∧ joinB r.verbs ≠ mk [] ∧ joinB r.resources ≠ mk [] ∧ joinB r.spaces ≠ mk [] := by
  unfold rlOk rlJ
  simp

/-! ### the text -/
def lineL (ws : List ByteArray) : List UInt8 := join (ws.map (·.data.toList)) [32]
def lnB (ws : List ByteArray) : ByteArray := mk (lineL ws ++ [10])
def textL (Ws : List (List ByteArray)) : List UInt8 := Ws.flatMap fun ws => lineL ws ++ [10]
def textB (Ws : List (List ByteArray)) : ByteArray := mk (textL Ws)
theorem textL_append (A B : List (List ByteArray)) : textL (A ++ B) = textL A ++ textL B := by unfold textL; rw [List.flatMap_append]
theorem textL_cons (x : List ByteArray) (B : List (List ByteArray)) : textL (x :: B) = (lineL x ++ [10]) ++ textL B := by unfold textL; rw [List.flatMap_cons]

/-- A word that may stand in a line. -/
structure Clean (x : ByteArray) : Prop where
  ne : x.data.toList ≠ []
  no32 : (32 : UInt8) ∉ x.data.toList
  no10 : (10 : UInt8) ∉ x.data.toList

theorem words_line {ws : List ByteArray} (h : ∀ x ∈ ws, Clean x) : wordsB (mk (lineL ws)) = ws := by
  unfold wordsB wordsL lineL
  rw [mk_list]
  cases ws with
  | nil => rfl
  | cons x r =>
    rw [List.map_cons, join_cons, cut_join 32 _ _ (h x (List.mem_cons_self ..)).no32 (fun y hy => by
      obtain ⟨z, hz, rfl⟩ := List.mem_map.1 hy
      exact (h z (List.mem_cons_of_mem _ hz)).no32), List.filter_eq_self.2 ?_, ← List.map_cons (f := fun x : ByteArray => x.data.toList), map_mk]
    intro y hy
    rw [← List.map_cons (f := fun x : ByteArray => x.data.toList)] at hy
    obtain ⟨z, hz, rfl⟩ := List.mem_map.1 hy
    have := (h z hz).ne
    unfold neL
    cases hzz : z.data.toList with
    | nil => exact absurd hzz this
    | cons _ _ => rfl

theorem tail_no {c : UInt8} : ∀ {r : List (List UInt8)}, c ≠ 32 → (∀ y ∈ r, c ∉ y) → c ∉ joinTail [32] r
  | [], _, _ => by simp [joinTail]
  | y :: r, hc, h => by
    rw [tail_cons]
    intro hm
    rcases List.mem_cons.1 hm with e | hm
    · exact hc e
    · rcases List.mem_append.1 hm with hm | hm
      · exact h y (List.mem_cons_self ..) hm
      · exact tail_no hc (fun z hz => h z (List.mem_cons_of_mem _ hz)) hm
theorem line_no10 {ws : List ByteArray} (h : ∀ x ∈ ws, Clean x) : (10 : UInt8) ∉ lineL ws := by
  unfold lineL
  cases ws with
  | nil => simp [join]
  | cons x r =>
    rw [List.map_cons, join_cons]
    intro hm
    rcases List.mem_append.1 hm with hm | hm
    · exact (h x (List.mem_cons_self ..)).no10 hm
    · exact tail_no (by decide) (fun y hy => by
        obtain ⟨z, hz, rfl⟩ := List.mem_map.1 hy
        exact (h z (List.mem_cons_of_mem _ hz)).no10) hm
theorem cut_text : ∀ {Ws : List (List ByteArray)}, (∀ ws ∈ Ws, ∀ x ∈ ws, Clean x) → cutL 10 (textL Ws) = Ws.map lineL ++ [[]]
  | [], _ => rfl
  | ws :: Ws, h => by
    rw [textL_cons, List.append_assoc, List.singleton_append, cutL_app, cut_text (fun x hx => h x (List.mem_cons_of_mem _ hx)), cutL_plain 10 _ (line_no10 (h ws (List.mem_cons_self ..)))]
    rfl
theorem lines_text {Ws : List (List ByteArray)} (h : ∀ ws ∈ Ws, ∀ x ∈ ws, Clean x) : linesB (textB Ws) = Ws.map fun ws => mk (lineL ws) := by
  have e : cutB 10 (textB Ws) = (Ws.map fun ws => mk (lineL ws)) ++ [mk []] := by
    unfold cutB textB
    rw [mk_list, cut_text h, List.map_append, List.map_map]
    rfl
  unfold linesB
  rw [e, if_pos (by
    rw [List.length_append]
    show gt (_ ++ [mk []]) (_ + 1 - 1) = _
    rw [Nat.add_sub_cancel, gt_eq (by simp)]
    simp [mk]), List.dropLast_concat]

/-! ### lines of words, one after another -/
def runE (C : Cf) : List (List ByteArray) → Int
  | [] => 0
  | ws :: r => if lineE C ws = 0 then runE (lineC C ws) r else lineE C ws
def runC (C : Cf) : List (List ByteArray) → Cf
  | [] => C
  | ws :: r => if lineE C ws = 0 then runC (lineC C ws) r else cf0
theorem go_run : ∀ {Ws : List (List ByteArray)} {C : Cf}, (∀ ws ∈ Ws, ∀ x ∈ ws, Clean x) → goE C (Ws.map fun ws => mk (lineL ws)) = runE C Ws ∧ goC C (Ws.map fun ws => mk (lineL ws)) = runC C Ws
  | [], _, _ => ⟨rfl, rfl⟩
  | ws :: Ws, C, h => by
    have e := words_line (h ws (List.mem_cons_self ..))
    have ih := go_run (C := lineC C ws) (fun x hx => h x (List.mem_cons_of_mem _ hx))
    simp only [List.map_cons, goE, goC, runE, runC, e]
    rw [ih.1, ih.2]
    exact ⟨rfl, rfl⟩
/-- All lines may be, and lead from one configuration to another. -/
def Leads (C : Cf) (Ws : List (List ByteArray)) (D : Cf) : Prop := runE C Ws = 0 ∧ runC C Ws = D
theorem Leads.nil (C : Cf) : Leads C [] C := ⟨rfl, rfl⟩
theorem Leads.cons {C D : Cf} {ws : List ByteArray} {Ws : List (List ByteArray)} (h : lineE C ws = 0) (h2 : Leads (lineC C ws) Ws D) : Leads C (ws :: Ws) D := by
  unfold Leads runE runC
  rw [if_pos h, if_pos h]
  exact h2
theorem Leads.append : ∀ {A B : List (List ByteArray)} {C D E : Cf}, Leads C A D → Leads D B E → Leads C (A ++ B) E
  | [], B, C, D, E, h, h2 => by
    obtain rfl : C = D := h.2
    exact h2
  | ws :: A, B, C, D, E, h, h2 => by
    have h0 : lineE C ws = 0 := by
      cases Classical.em (lineE C ws = 0) with
      | inl e => exact e
      | inr e => exact absurd (by have := h.1; unfold runE at this; rw [if_neg e] at this; exact this) e
    have h1 : Leads (lineC C ws) A D := by
      unfold Leads runE runC at h
      rw [if_pos h0, if_pos h0] at h
      exact h
    exact Leads.cons h0 (Leads.append h1 h2)
end Go.Proofs.YtijjpblmnlednaaGreatDoor
