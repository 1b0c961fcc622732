/-
  Numbers and their digits.
  How a configuration is printed, and when it may be: the mathematics. No condition.
-/
import Derived.Test.YtfollcabppkihaaDoorD1
import Derived.Test.YtfollcabppkihaaDoorD2
import Derived.Lib.ItoaNum
namespace Go.Proofs.YtfollcabppkihaaDoor
open Go.RowKit Go.Lib

theorem valL_snoc (l : List UInt8) (b : UInt8) : valL (l ++ [b]) = valL l * 10 + (b.toNat - 48) := by
  unfold valL
  rw [List.foldl_append]
  rfl
theorem dec_small {n : Nat} (h : n < 10) : decDigits n = [UInt8.ofNat (48 + n)] := by rw [decDigits, dif_pos h]
theorem dec_big {n : Nat} (h : ¬ n < 10) : decDigits n = decDigits (n / 10) ++ [UInt8.ofNat (48 + n % 10)] := by rw [decDigits, dif_neg h]
theorem byte_of {n : Nat} (h : n < 10) : (UInt8.ofNat (48 + n)).toNat = 48 + n := by simp; omega

def IsD (l : List UInt8) : Prop := ∀ b ∈ l, 48 ≤ b.toNat ∧ b.toNat ≤ 57

theorem dec_ind {motive : Nat → Prop} (h1 : ∀ n, n < 10 → motive n) (h2 : ∀ n, ¬ n < 10 → motive (n / 10) → motive n) : ∀ n, motive n := by
  intro n
  induction n using Nat.strongRecOn with
  | ind n ih =>
    by_cases h : n < 10
    · exact h1 n h
    · exact h2 n h (ih (n / 10) (by omega))

theorem dec_digits : ∀ n, IsD (decDigits n) := by
  apply dec_ind
  · intro n h b hb
    rw [dec_small h] at hb
    have : b = UInt8.ofNat (48 + n) := by simpa using hb
    subst this
    rw [byte_of h]
    omega
  · intro n h ih b hb
    rw [dec_big h] at hb
    rcases List.mem_append.1 hb with hb | hb
    · exact ih b hb
    · have : b = UInt8.ofNat (48 + n % 10) := by simpa using hb
      subst this
      rw [byte_of (Nat.mod_lt _ (by decide))]
      omega
theorem dec_val : ∀ n, valL (decDigits n) = n := by
  apply dec_ind
  · intro n h
    rw [dec_small h]
    show 0 * 10 + ((UInt8.ofNat (48 + n)).toNat - 48) = n
    rw [byte_of h]
    omega
  · intro n h ih
    rw [dec_big h, valL_snoc, ih, byte_of (Nat.mod_lt _ (by decide))]
    omega
theorem dec_pos : ∀ n, 1 ≤ (decDigits n).length := by
  intro n
  by_cases h : n < 10
  · rw [dec_small h]; exact Nat.le_refl 1
  · rw [dec_big h, List.length_append]; simp
theorem dec_len : ∀ n k, 1 ≤ k → n < 10 ^ k → (decDigits n).length ≤ k := by
  apply dec_ind (motive := fun n => ∀ k, 1 ≤ k → n < 10 ^ k → (decDigits n).length ≤ k)
  · intro n h k hk _
    rw [dec_small h]
    simpa using hk
  · intro n h ih k hk hn
    rw [dec_big h, List.length_append]
    have h2 : 2 ≤ k := by
      rcases (by omega : k = 1 ∨ 2 ≤ k) with rfl | h2
      · omega
      · exact h2
    obtain ⟨j, rfl⟩ : ∃ j, k = j + 1 := ⟨k - 1, by omega⟩
    have := ih j (by omega) (by rw [Nat.pow_succ] at hn; omega)
    simp
    omega
theorem dec_head : ∀ n, 1 ≤ n → (decDigits n).head? ≠ some 48 := by
  apply dec_ind (motive := fun n => 1 ≤ n → (decDigits n).head? ≠ some 48)
  · intro n h h1
    rw [dec_small h]
    intro e
    have e2 : UInt8.ofNat (48 + n) = 48 := by simpa using e
    have := congrArg UInt8.toNat e2
    rw [byte_of h] at this
    have h48 : (48 : UInt8).toNat = 48 := rfl
    omega
  · intro n h ih _
    rw [dec_big h]
    have := ih (by omega)
    cases hc : decDigits (n / 10) with
    | nil => have := dec_pos (n / 10); rw [hc] at this; simp at this
    | cons x t => rw [hc] at this; exact this

theorem snoc_ind {motive : List UInt8 → Prop} (h1 : motive []) (h2 : ∀ l b, motive l → motive (l ++ [b])) : ∀ l, motive l := by
  intro l
  have : ∀ l : List UInt8, motive l.reverse := by
    intro l
    induction l with
    | nil => exact h1
    | cons b l ih => rw [List.reverse_cons]; exact h2 _ b ih
  have h := this l.reverse
  rwa [List.reverse_reverse] at h

theorem val_pos : ∀ l : List UInt8, IsD l → l ≠ [] → l.head? ≠ some 48 → 1 ≤ valL l := by
  apply snoc_ind (motive := fun l => IsD l → l ≠ [] → l.head? ≠ some 48 → 1 ≤ valL l)
  · intro _ h; exact absurd rfl h
  · intro l b ih hd _ hh
    rw [valL_snoc]
    have hb := hd b (by simp)
    cases l with
    | nil =>
      have hne : b.toNat ≠ 48 := fun e => hh (by rw [List.nil_append, List.head?_cons]; congr 1; exact UInt8.toNat_inj.1 e)
      omega
    | cons x t =>
      have := ih (fun y hy => hd y (List.mem_append_left _ hy)) (by simp) (by simpa using hh)
      omega

/-- Digits without a nought ahead of others are the digits of their number. -/
theorem dec_of : ∀ l : List UInt8, IsD l → l ≠ [] → (1 < l.length → l.head? ≠ some 48) → decDigits (valL l) = l := by
  apply snoc_ind (motive := fun l => IsD l → l ≠ [] → (1 < l.length → l.head? ≠ some 48) → decDigits (valL l) = l)
  · intro _ h; exact absurd rfl h
  · intro l b ih hd _ hh
    have hb := hd b (by simp)
    rw [valL_snoc]
    have hbb : UInt8.ofNat (48 + (b.toNat - 48)) = b := by
      rw [show 48 + (b.toNat - 48) = b.toNat by omega, UInt8.ofNat_toNat]
    cases hl : l with
    | nil =>
      show decDigits (0 * 10 + (b.toNat - 48)) = [b]
      rw [dec_small (by omega), Nat.zero_mul, Nat.zero_add, hbb]
    | cons x t =>
      have hd' : IsD l := fun y hy => hd y (List.mem_append_left _ hy)
      have hne : l ≠ [] := by rw [hl]; simp
      have hh' : l.head? ≠ some 48 := by
        have := hh (by rw [hl]; simp)
        rw [hl] at this ⊢
        simpa using this
      have hp := val_pos l hd' hne hh'
      have hih := ih hd' hne (fun _ => hh')
      rw [← hl, dec_big (by omega), show (valL l * 10 + (b.toNat - 48)) / 10 = valL l by omega, show (valL l * 10 + (b.toNat - 48)) % 10 = b.toNat - 48 by omega, hih, hbb]

/-! ### sixteen -/
def digB (n : Int) : ByteArray := mk (decDigits (max n 0).toNat)

theorem isNum_list (l : List UInt8) (hd : IsD l) (h9 : l.length ≤ 9) (h1 : l ≠ []) (hh : 1 < l.length → l.head? ≠ some 48) : isNum (mk l) = true := by
  have hsz : (mk l).size = l.length := by rw [← size_list, mk_list]
  have hpos : 1 ≤ l.length := by cases l with | nil => exact absurd rfl h1 | cons _ _ => simp
  have hA : allB isDigit (mk l) = true := by
    unfold allB
    rw [mk_list, List.all_eq_true]
    intro b hb
    have := hd b hb
    unfold isDigit
    simp
    omega
  have e1 : decide (9 < (mk l).size) = false := by rw [hsz]; simp; omega
  have e2 : decide ((mk l).size = 0) = false := by rw [hsz]; simp; exact h1
  unfold isNum
  rw [e1, hA, e2]
  by_cases h : 1 < (mk l).size
  · rw [dif_pos h]
    have hne : ((mk l)[0]'(by omega)) ≠ 48 := fun e => hh (by rw [← hsz]; exact h) (by
      have := byte_at (mk l) 0 (by omega)
      rw [mk_list, e] at this
      rw [← this, List.head?_eq_getElem?])
    have : (((mk l)[0].toNat : Int) == 48) = false := by
      cases hb : (((mk l)[0].toNat : Int) == 48) with
      | false => rfl
      | true => exact absurd (UInt8.toNat_inj.1 (by have := eq_of_beq hb; have h48 : (48 : UInt8).toNat = 48 := rfl; omega)) hne
    exact (congrArg (fun b => !(false || (!(true && !false) || b))) this).trans rfl
  · rw [dif_neg h]
    rfl
theorem isNum_digits (n : Nat) (h : n ≤ 999999999) : isNum (mk (decDigits n)) = true := by
  refine isNum_list _ (dec_digits n) (dec_len n 9 (by decide) (by omega)) (fun e => by have := dec_pos n; rw [e] at this; simp at this) (fun hl => ?_)
  refine dec_head n ?_
  rcases Nat.eq_zero_or_pos n with rfl | hp
  · rw [dec_small (by decide)] at hl; simp at hl
  · exact hp

theorem num_digits (n : Nat) (h : n ≤ 999999999) (least most : Int) : numIn (digB n) least most = (decide (least ≤ (n : Int)) && decide ((n : Int) ≤ most)) ∧ numOf (digB n) least most = if (decide (least ≤ (n : Int)) && decide ((n : Int) ≤ most)) then (n : Int) else 0 := by
  have e : digB n = mk (decDigits n) := by unfold digB; congr 2; omega
  rw [e]
  unfold numOf numIn
  rw [isNum_digits n h, mk_list, dec_val, Bool.true_and]
  exact ⟨rfl, rfl⟩

theorem digB_size (n : Int) : (digB n).size = (decDigits (max n 0).toNat).length := by rw [← size_list]; unfold digB; rw [mk_list]

theorem num_iff (s : ByteArray) (h9 : s.size ≤ 9) (hd : allB isDigit s = true) : isNum s = true ↔ digB (valL s.data.toList : Nat) = s := by
  have hD : IsD s.data.toList := fun b hb => by
    unfold allB at hd
    have := List.all_eq_true.1 hd b hb
    unfold isDigit at this
    simp at this
    omega
  have e : digB (valL s.data.toList : Nat) = mk (decDigits (valL s.data.toList)) := by unfold digB; congr 2; omega
  rw [e]
  constructor
  · intro h
    obtain ⟨_, _, h1, h0⟩ := isNum_parts h
    have hne : s.data.toList ≠ [] := fun h => by rw [← size_list, h] at h1; simp at h1
    rw [dec_of s.data.toList hD hne (fun hl hh => by
      rw [size_list] at hl
      have := h0 hl
      have e2 := byte_at s 0 (by omega)
      rw [List.head?_eq_getElem?] at hh
      rw [hh] at e2
      rw [← Option.some.inj e2] at this
      exact absurd this (by decide)), mk_of]
  · intro h
    have hv : valL s.data.toList ≤ 999999999 := by
      have := valTo_lt s hd s.size (Nat.le_refl _)
      rw [valTo_all] at this
      have h2 : 10 ^ s.size ≤ 10 ^ 9 := Nat.pow_le_pow_right (by decide) h9
      omega
    have := isNum_digits _ hv
    rwa [h] at this


end Go.Proofs.YtfollcabppkihaaDoor

namespace Go.Proofs.YtfollcabppkihaaDoor
open Go.Lib

theorem cutL_app (c : UInt8) (b : List UInt8) : ∀ a : List UInt8, cutL c (a ++ c :: b) = cutL c a ++ cutL c b
  | [] => by rw [List.nil_append, cutL_cons, if_pos rfl]; rfl
  | x :: a => by
    have ih := cutL_app c b a
    rw [List.cons_append, cutL_cons, cutL_cons, ih]
    by_cases h : x = c
    · rw [if_pos h, if_pos h]; rfl
    · rw [if_neg h, if_neg h]
      have hne := cutL_ne c a
      cases hc : cutL c a with
      | nil => exact absurd hc hne
      | cons y t => rfl
theorem cut_join (c : UInt8) : ∀ (r : List (List UInt8)) (x : List UInt8), c ∉ x → (∀ y ∈ r, c ∉ y) → cutL c (x ++ joinTail [c] r) = x :: r
  | [], x, hx, _ => by
    have : joinTail [c] [] = [] := rfl
    rw [this, List.append_nil, cutL_plain c x hx]
  | y :: r, x, hx, hr => by
    rw [tail_cons, cutL_at c x _ hx, cut_join c r y (hr y (List.mem_cons_self ..)) (fun z hz => hr z (List.mem_cons_of_mem _ hz))]

/-- The word of a list; the empty text, if there is none. -/
def joinB (L : List ByteArray) : ByteArray := if L = [] then mk [45] else if L = [mk [42]] then mk [42] else if good L then mk (join (L.map (·.data.toList)) [44]) else mk []

theorem map_mk (L : List ByteArray) : (L.map (·.data.toList)).map mk = L := by
  rw [List.map_map]
  have : (mk ∘ fun x : ByteArray => x.data.toList) = id := by funext x; exact mk_of x
  rw [this, List.map_id]
theorem join_back {L : List ByteArray} (h : Good L) (hne : L ≠ []) : cutB 44 (mk (join (L.map (·.data.toList)) [44])) = L := by
  have hw := good_words h
  cases L with
  | nil => exact absurd rfl hne
  | cons x r =>
    unfold cutB
    rw [mk_list, List.map_cons, join_cons, cut_join 44 _ _ (word_comma (hw x (List.mem_cons_self ..))) (fun y hy => by
      obtain ⟨z, hz, rfl⟩ := List.mem_map.1 hy
      exact word_comma (hw z (List.mem_cons_of_mem _ hz))), List.map_cons, mk_of, map_mk]

/-- A list is read as it was joined. -/
theorem list_join (L : List ByteArray) (h : joinB L ≠ mk []) : listOk (joinB L) = true ∧ listOf (joinB L) = L := by
  unfold joinB at h ⊢
  by_cases h0 : L = []
  · rw [if_pos h0]
    unfold listOk listOf
    rw [if_pos rfl, if_pos rfl, h0]
    exact ⟨rfl, rfl⟩
  rw [if_neg h0] at h ⊢
  by_cases h1 : L = [mk [42]]
  · rw [if_pos h1]
    unfold listOk listOf
    rw [if_neg (by decide), if_pos rfl, if_neg (by decide), if_pos rfl, h1]
    exact ⟨rfl, rfl⟩
  rw [if_neg h1] at h ⊢
  cases hg : good L with
  | false => rw [hg] at h; exact absurd rfl h
  | true =>
    rw [if_pos rfl]
    have hG := good_iff.1 hg
    have hb := join_back hG h0
    have n1 : mk (join (L.map (·.data.toList)) [44]) ≠ mk [45] := fun e => by
      rw [e, show cutB 44 (mk [45]) = [mk [45]] from rfl] at hb
      have := good_words hG (mk [45]) (by rw [← hb]; simp)
      rw [dash_no] at this
      cases this
    have n2 : mk (join (L.map (·.data.toList)) [44]) ≠ mk [42] := fun e => by
      rw [e, show cutB 44 (mk [42]) = [mk [42]] from rfl] at hb
      exact h1 hb.symm
    unfold listOk listOf
    rw [if_neg n1, if_neg n2, if_neg n1, if_neg n2, hb, hg]
    exact ⟨rfl, rfl⟩

/-- A list is joined as it was read. -/
theorem join_list (s : ByteArray) (h : listOk s = true) : joinB (listOf s) = s := by
  unfold listOk at h
  unfold listOf
  by_cases h0 : s = mk [45]
  · rw [if_pos h0]
    unfold joinB
    rw [if_pos rfl, h0]
  rw [if_neg h0] at h ⊢
  by_cases h1 : s = mk [42]
  · rw [if_pos h1]
    unfold joinB
    rw [if_neg (by simp), if_pos rfl, h1]
  rw [if_neg h1] at h ⊢
  rw [if_pos h]
  have hG := good_iff.1 h
  unfold joinB
  rw [if_neg (by unfold cutB; intro e; exact cutL_ne 44 _ (List.map_eq_nil_iff.1 e)), if_neg (fun e => by
    have := good_words hG (mk [42]) (by rw [e]; simp)
    rw [star_no] at this
    cases this), if_pos h]
  unfold cutB
  rw [List.map_map]
  have : ((fun x : ByteArray => x.data.toList) ∘ mk) = id := by funext x; exact mk_list x
  rw [this, List.map_id, join_cut, mk_of]
theorem no_list : listOk (mk []) = false := by
  unfold listOk
  rw [if_neg (by decide), if_neg (by decide), show cutB 44 (mk []) = [mk []] from rfl]
  cases h : good [mk []] with
  | false => rfl
  | true =>
    have := good_words (good_iff.1 h) (mk []) (by simp)
    rw [isWord_eq] at this
    revert this
    decide

/-! ### the words of the lines -/
def numWs (C : Cf) : List (List ByteArray) :=
  (if C.total = 0 then [] else [[tTotal, digB C.total]]) ++ ((if C.period = 0 then [] else [[tPeriod, digB C.period]]) ++ (if C.perSeat = 0 then [] else [[tSeats, digB C.perSeat, digB C.most]]))
def borW (n : Int) : ByteArray := if n = -1 then tAll else digB n
def lvWs (l : Lv) : List ByteArray :=
  if l.kind = 1 then [tLevel, l.name, tExempt]
  else if l.kind = 2 then [tLevel, l.name, digB l.shares, digB l.lend, borW l.borrow, tReject]
  else if l.kind = 3 then [tLevel, l.name, digB l.shares, digB l.lend, borW l.borrow, tQueue, digB l.queues, digB l.hand, digB l.length, digB l.wait, digB l.guess]
  else [tLevel, l.name]
def byW (n : Int) : ByteArray := if n = 0 then tNone else if n = 1 then tUser else if n = 2 then tSpace else mk []
def scWs (s : Sc) : List ByteArray := [tSchema, s.name, s.level, digB s.rank, byW s.way]
def rlJ (r : Rl) : List ByteArray := [joinB r.users, joinB r.groups, joinB r.verbs, joinB r.resources, joinB r.spaces]
def rlWs (r : Rl) : List ByteArray := tRule :: rlJ r
def scLs (s : Sc) : List (List ByteArray) := scWs s :: s.rules.map rlWs
def cfWs (C : Cf) : List (List ByteArray) := numWs C ++ (C.levels.map lvWs ++ C.schemas.flatMap scLs)

/-! ### what may be printed -/
def inI (n lo hi : Int) : Bool := decide (lo ≤ n) && decide (n ≤ hi)
theorem inI_iff {n lo hi : Int} : inI n lo hi = true ↔ lo ≤ n ∧ n ≤ hi := by unfold inI; simp
def seatsOk (p m : Int) : Bool := (p == 0 && m == 0) || (inI p 1 1048576 && inI m 1 16)
def sharesOk (l : Lv) : Bool := inI l.shares 0 10000 && (inI l.lend 0 100 && (l.borrow == -1 || inI l.borrow 0 1000))
def lanesOk (l : Lv) : Bool := inI l.queues 1 64 && (inI l.hand 1 8 && (inI l.length 1 64 && (inI l.wait 1 1000 && inI l.guess 1 1000)))
def noLanes (l : Lv) : Bool := l.queues == 0 && (l.hand == 0 && (l.length == 0 && (l.wait == 0 && l.guess == 0)))
def noShares (l : Lv) : Bool := l.shares == 0 && (l.lend == 0 && l.borrow == 0)
def lvOk (l : Lv) : Bool := isName l.name && (if l.kind = 1 then noShares l && noLanes l else if l.kind = 2 then sharesOk l && noLanes l else if l.kind = 3 then sharesOk l && lanesOk l else false)
def rlOk (r : Rl) : Bool := (rlJ r).all fun x => decide (x ≠ mk [])
def byIs (n : Int) : Bool := n == 0 || (n == 1 || n == 2)
def rlsOk (L : List Rl) : Bool := decide (L.length ≤ 8) && L.all rlOk
def scOk (s : Sc) : Bool := isName s.name && (isName s.level && (inI s.rank 1 10000 && (byIs s.way && rlsOk s.rules)))
def levelsOk (L : List Lv) : Bool := decide (L.length ≤ 16) && (L.all lvOk && decide (L.Pairwise fun a b => a.name ≠ b.name))
def schemasOk (L : List Sc) : Bool := decide (L.length ≤ 32) && (L.all scOk && decide (L.Pairwise fun a b => a.name ≠ b.name))
def formed (C : Cf) : Bool := inI C.total 0 4096 && (inI C.period 0 1000 && (seatsOk C.perSeat C.most && (levelsOk C.levels && schemasOk C.schemas)))

theorem rlOk_iff {r : Rl} : rlOk r = true ↔ joinB r.users ≠ mk [] ∧ joinB r.groups ≠ mk [] ∧ joinB r.verbs ≠ mk [] ∧ joinB r.resources ≠ mk [] ∧ joinB r.spaces ≠ mk [] := by
  unfold rlOk rlJ
  simp

/-! ### the text -/
def lineL (ws : List ByteArray) : List UInt8 := join (ws.map (·.data.toList)) [32]
def lnB (ws : List ByteArray) : ByteArray := mk (lineL ws ++ [10])
def textL (Ws : List (List ByteArray)) : List UInt8 := Ws.flatMap fun ws => lineL ws ++ [10]
def textB (Ws : List (List ByteArray)) : ByteArray := mk (textL Ws)
theorem textL_append (A B : List (List ByteArray)) : textL (A ++ B) = textL A ++ textL B := by unfold textL; rw [List.flatMap_append]
theorem textL_cons (x : List ByteArray) (B : List (List ByteArray)) : textL (x :: B) = (lineL x ++ [10]) ++ textL B := by unfold textL; rw [List.flatMap_cons]

/-- A word that may stand in a line. -/
structure Clean (x : ByteArray) : Prop where
  ne : x.data.toList ≠ []
  no32 : (32 : UInt8) ∉ x.data.toList
  no10 : (10 : UInt8) ∉ x.data.toList

theorem words_line {ws : List ByteArray} (h : ∀ x ∈ ws, Clean x) : wordsB (mk (lineL ws)) = ws := by
  unfold wordsB wordsL lineL
  rw [mk_list]
  cases ws with
  | nil => rfl
  | cons x r =>
    rw [List.map_cons, join_cons, cut_join 32 _ _ (h x (List.mem_cons_self ..)).no32 (fun y hy => by
      obtain ⟨z, hz, rfl⟩ := List.mem_map.1 hy
      exact (h z (List.mem_cons_of_mem _ hz)).no32), List.filter_eq_self.2 ?_, ← List.map_cons (f := fun x : ByteArray => x.data.toList), map_mk]
    intro y hy
    rw [← List.map_cons (f := fun x : ByteArray => x.data.toList)] at hy
    obtain ⟨z, hz, rfl⟩ := List.mem_map.1 hy
    have := (h z hz).ne
    unfold neL
    cases hzz : z.data.toList with
    | nil => exact absurd hzz this
    | cons _ _ => rfl

theorem tail_no {c : UInt8} : ∀ {r : List (List UInt8)}, c ≠ 32 → (∀ y ∈ r, c ∉ y) → c ∉ joinTail [32] r
  | [], _, _ => by simp [joinTail]
  | y :: r, hc, h => by
    rw [tail_cons]
    intro hm
    rcases List.mem_cons.1 hm with e | hm
    · exact hc e
    · rcases List.mem_append.1 hm with hm | hm
      · exact h y (List.mem_cons_self ..) hm
      · exact tail_no hc (fun z hz => h z (List.mem_cons_of_mem _ hz)) hm
theorem line_no10 {ws : List ByteArray} (h : ∀ x ∈ ws, Clean x) : (10 : UInt8) ∉ lineL ws := by
  unfold lineL
  cases ws with
  | nil => simp [join]
  | cons x r =>
    rw [List.map_cons, join_cons]
    intro hm
    rcases List.mem_append.1 hm with hm | hm
    · exact (h x (List.mem_cons_self ..)).no10 hm
    · exact tail_no (by decide) (fun y hy => by
        obtain ⟨z, hz, rfl⟩ := List.mem_map.1 hy
        exact (h z (List.mem_cons_of_mem _ hz)).no10) hm
theorem cut_text : ∀ {Ws : List (List ByteArray)}, (∀ ws ∈ Ws, ∀ x ∈ ws, Clean x) → cutL 10 (textL Ws) = Ws.map lineL ++ [[]]
  | [], _ => rfl
  | ws :: Ws, h => by
    rw [textL_cons, List.append_assoc, List.singleton_append, cutL_app, cut_text (fun x hx => h x (List.mem_cons_of_mem _ hx)), cutL_plain 10 _ (line_no10 (h ws (List.mem_cons_self ..)))]
    rfl
theorem lines_text {Ws : List (List ByteArray)} (h : ∀ ws ∈ Ws, ∀ x ∈ ws, Clean x) : linesB (textB Ws) = Ws.map fun ws => mk (lineL ws) := by
  have e : cutB 10 (textB Ws) = (Ws.map fun ws => mk (lineL ws)) ++ [mk []] := by
    unfold cutB textB
    rw [mk_list, cut_text h, List.map_append, List.map_map]
    rfl
  unfold linesB
  rw [e, if_pos (by
    rw [List.length_append]
    show gt (_ ++ [mk []]) (_ + 1 - 1) = _
    rw [Nat.add_sub_cancel, gt_eq (by simp)]
    simp [mk]), List.dropLast_concat]

/-! ### lines of words, one after another -/
def runE (C : Cf) : List (List ByteArray) → Int
  | [] => 0
  | ws :: r => if lineE C ws = 0 then runE (lineC C ws) r else lineE C ws
def runC (C : Cf) : List (List ByteArray) → Cf
  | [] => C
  | ws :: r => if lineE C ws = 0 then runC (lineC C ws) r else cf0
theorem go_run : ∀ {Ws : List (List ByteArray)} {C : Cf}, (∀ ws ∈ Ws, ∀ x ∈ ws, Clean x) → goE C (Ws.map fun ws => mk (lineL ws)) = runE C Ws ∧ goC C (Ws.map fun ws => mk (lineL ws)) = runC C Ws
  | [], _, _ => ⟨rfl, rfl⟩
  | ws :: Ws, C, h => by
    have e := words_line (h ws (List.mem_cons_self ..))
    have ih := go_run (C := lineC C ws) (fun x hx => h x (List.mem_cons_of_mem _ hx))
    simp only [List.map_cons, goE, goC, runE, runC, e]
    rw [ih.1, ih.2]
    exact ⟨rfl, rfl⟩
/-- All lines may be, and lead from one configuration to another. -/
def Leads (C : Cf) (Ws : List (List ByteArray)) (D : Cf) : Prop := runE C Ws = 0 ∧ runC C Ws = D
theorem Leads.nil (C : Cf) : Leads C [] C := ⟨rfl, rfl⟩
theorem Leads.cons {C D : Cf} {ws : List ByteArray} {Ws : List (List ByteArray)} (h : lineE C ws = 0) (h2 : Leads (lineC C ws) Ws D) : Leads C (ws :: Ws) D := by
  unfold Leads runE runC
  rw [if_pos h, if_pos h]
  exact h2
theorem Leads.append : ∀ {A B : List (List ByteArray)} {C D E : Cf}, Leads C A D → Leads D B E → Leads C (A ++ B) E
  | [], B, C, D, E, h, h2 => by
    obtain rfl : C = D := h.2
    exact h2
  | ws :: A, B, C, D, E, h, h2 => by
    have h0 : lineE C ws = 0 := by
      cases Classical.em (lineE C ws = 0) with
      | inl e => exact e
      | inr e => exact absurd (by have := h.1; unfold runE at this; rw [if_neg e] at this; exact this) e
    have h1 : Leads (lineC C ws) A D := by
      unfold Leads runE runC at h
      rw [if_pos h0, if_pos h0] at h
      exact h
    exact Leads.cons h0 (Leads.append h1 h2)

end Go.Proofs.YtfollcabppkihaaDoor
