/-
  Lists of texts in memory of their own; texts put together.
  Numbers and their digits.
  What 'Digits', 'Hex', 'Unhex', 'Number' of the reference answer. No condition.
  What 'Number' of the reference answers. No condition but that a text has a length.
-/
import Derived.Test.YtaodckojinbdfaaGreatDoorWalkD
import Derived.Laws.AppendOwnNone
import Derived.Deep.AppendLies
import Derived.Deep.SlicePairs
import Derived.Lib.Join
import Derived.Test.YtaodckojinbdfaaGreatDoorMA
import Derived.Lib.ItoaNum
namespace Go.Proofs.YtaodckojinbdfaaGreatDoor
open Go.RowKit Go.Lib Go.Shelf

theorem add_at (g j : Nat) : (⟨g, 0, none⟩ : Addr).add j = ⟨g, j, none⟩ := by unfold Addr.add; split <;> simp_all

theorem one_newT (w : World) (x : ByteArray) : ∀ j u, ([.string x] : List Value)[j]? = some u → (w.alloc (.cells #[.string x] 9)).cell? ((⟨w.heap.size, 0, none⟩ : Addr).add j) = some u := by
  intro j u hj
  match j, hj with
  | 0, hj => simp at hj; subst hj; simp [Addr.add]
theorem one_cellT (x : ByteArray) : ∀ u ∈ ([.string x] : List Value), u.oneCell' = true := by
  intro u hu; simp at hu; subst hu; rfl

def OwnT (B : Nat) (w : World) (v : Value) (L : List ByteArray) : Prop := w.ownsRow B 9 1 v L.length (L.map Value.string)
theorem OwnT.shape {B : Nat} {w : World} {v : Value} {L : List ByteArray} (h : OwnT B w v L) : ∃ a c, v = .slice a L.length c ∧ RowL w a L := by
  rcases h.2 with ⟨rfl, h0⟩ | ⟨g, cap, cur, rfl, hb, hg, rest⟩
  · have : L = [] := by cases L with | nil => rfl | cons _ _ => simp at h0
    subst this
    exact ⟨none, 0, rfl, fun h => absurd h (Nat.lt_irrefl 0)⟩
  · refine ⟨some ⟨g, 0, none⟩, cap, rfl, fun hn => ⟨g, 0, rfl, (h.lt g rfl).2, fun k hk => ?_⟩⟩
    rw [Nat.zero_add, h.cellAt k (by omega), List.getElem?_map, List.getElem?_eq_getElem hk, gt_eq hk]
    rfl

theorem cat_list (a b : ByteArray) : (a ++ b).data.toList = a.data.toList ++ b.data.toList := by simp
theorem cat_size (a b : ByteArray) : (a ++ b).size = a.size + b.size := by simp

theorem OwnT.put {B : Nat} {w : World} {v : Value} {W : List ByteArray} {x : ByteArray} (h : w.ownsRow B 9 1 v (W.length + 1) (W.map Value.string ++ [.string x])) : OwnT B w v (W ++ [x]) := by
  unfold OwnT
  rw [List.length_append, List.map_append]
  exact h

theorem mk_size (l : List UInt8) : (mk l).size = l.length := by rw [← size_list, mk_list]
theorem short_cut (c : UInt8) (s : ByteArray) (hs : s.size ≤ 9223372036854775807) : Short (cutB c s) := fun k hk => by
  have := gt_mem hk
  obtain ⟨x, hx, e⟩ := List.mem_map.1 this
  rw [← e, mk_size]
  have := piece_le c _ x hx
  rw [size_list] at this
  omega
theorem isWord_eq (s : ByteArray) : isWord s = (decide (s.size ≤ 64) && (allB isWordB s && (!decide (s.size = 0) && !(s.data.toList == [45])))) := by
  unfold isWord
  rw [ByteArray.toList_eq]

theorem word_comma {s : ByteArray} (h : isWord s = true) : (44 : UInt8) ∉ s.data.toList := by
  rw [isWord_eq] at h
  simp only [Bool.and_eq_true] at h
  intro hm
  have h2 := h.2.1
  unfold allB at h2
  have := List.all_eq_true.1 h2 44 hm
  revert this
  decide
theorem word_short {s : ByteArray} (h : isWord s = true) : s.size ≤ 64 := by
  rw [isWord_eq] at h
  simp only [Bool.and_eq_true, decide_eq_true_eq] at h
  exact h.1
theorem good_words {L : List ByteArray} (h : Good L) : ∀ x ∈ L, isWord x = true := fun x hx => by
  obtain ⟨k, hk, rfl⟩ := List.getElem_of_mem hx
  have := (h.2 k hk).1
  rwa [gt_eq hk] at this
theorem star_no : isWord (mk [42]) = false := by rw [isWord_eq]; decide
theorem dash_no : isWord (mk [45]) = false := by rw [isWord_eq]; decide

theorem cutL_cons (c x : UInt8) (l : List UInt8) : cutL c (x :: l) = if x = c then [] :: cutL c l else (x :: (cutL c l).headD []) :: (cutL c l).tail := rfl
theorem tail_cons (c : UInt8) (y : List UInt8) (r : List (List UInt8)) : joinTail [c] (y :: r) = c :: (y ++ joinTail [c] r) := by simp [joinTail]
theorem join_cut (c : UInt8) : ∀ l : List UInt8, join (cutL c l) [c] = l
  | [] => rfl
  | b :: l => by
    have ih := join_cut c l
    have hne := cutL_ne c l
    rw [cutL_cons]
    cases hc : cutL c l with
    | nil => exact absurd hc hne
    | cons h t =>
      rw [hc, join_cons] at ih
      by_cases e : b = c
      · rw [if_pos e, join_cons, tail_cons, ih, e]
        rfl
      · rw [if_neg e, join_cons]
        show b :: (h ++ joinTail [c] t) = _
        rw [ih]


end Go.Proofs.YtaodckojinbdfaaGreatDoor

namespace Go.Proofs.YtaodckojinbdfaaGreatDoor
open Go.RowKit Go.Lib

theorem valL_snoc (l : List UInt8) (b : UInt8) : valL (l ++ [b]) = valL l * 10 + (b.toNat - 48) := by
  unfold valL
  rw [List.foldl_append]
  rfl
theorem dec_small {n : Nat} (h : n < 10) : decDigits n = [UInt8.ofNat (48 + n)] := by rw [decDigits, dif_pos h]
theorem dec_big {n : Nat} (h : ¬ n < 10) : decDigits n = decDigits (n / 10) ++ [UInt8.ofNat (48 + n % 10)] := by rw [decDigits, dif_neg h]
theorem byte_of {n : Nat} (h : n < 10) : (UInt8.ofNat (48 + n)).toNat = 48 + n := by simp; omega

def IsD (l : List UInt8) : Prop := ∀ b ∈ l, 48 ≤ b.toNat ∧ b.toNat ≤ 57

theorem dec_ind {motive : Nat → Prop} (h1 : ∀ n, n < 10 → motive n) (h2 : ∀ n, ¬ n < 10 → motive (n / 10) → motive n) : ∀ n, motive n := by
  intro n
  induction n using Nat.strongRecOn with
  | ind n ih =>
    by_cases h : n < 10
    · exact h1 n h
    · exact h2 n h (ih (n / 10) (by omega))

theorem dec_digits : ∀ n, IsD (decDigits n) := by
  apply dec_ind
  · intro n h b hb
    rw [dec_small h] at hb
    have : b = UInt8.ofNat (48 + n) := by simpa using hb
    subst this
    rw [byte_of h]
    omega
  · intro n h ih b hb
    rw [dec_big h] at hb
    rcases List.mem_append.1 hb with hb | hb
    · exact ih b hb
    · have : b = UInt8.ofNat (48 + n % 10) := by simpa using hb
      subst this
      rw [byte_of (Nat.mod_lt _ (by decide))]
      omega
theorem dec_val : ∀ n, valL (decDigits n) = n := by
  apply dec_ind
  · intro n h
    rw [dec_small h]
    show 0 * 10 + ((UInt8.ofNat (48 + n)).toNat - 48) = n
    rw [byte_of h]
    omega
  · intro n h ih
    rw [dec_big h, valL_snoc, ih, byte_of (Nat.mod_lt _ (by decide))]
    omega
theorem dec_pos : ∀ n, 1 ≤ (decDigits n).length := by
  intro n
  by_cases h : n < 10
  · rw [dec_small h]; exact Nat.le_refl 1
  · rw [dec_big h, List.length_append]; simp
theorem dec_len : ∀ n k, 1 ≤ k → n < 10 ^ k → (decDigits n).length ≤ k := by
  apply dec_ind (motive := fun n => ∀ k, 1 ≤ k → n < 10 ^ k → (decDigits n).length ≤ k)
  · intro n h k hk _
    rw [dec_small h]
    simpa using hk
  · intro n h ih k hk hn
    rw [dec_big h, List.length_append]
    have h2 : 2 ≤ k := by
      rcases (by omega : k = 1 ∨ 2 ≤ k) with rfl | h2
      · omega
      · exact h2
    obtain ⟨j, rfl⟩ : ∃ j, k = j + 1 := ⟨k - 1, by omega⟩
    have := ih j (by omega) (by rw [Nat.pow_succ] at hn; omega)
    simp
    omega
theorem dec_head : ∀ n, 1 ≤ n → (decDigits n).head? ≠ some 48 := by
  apply dec_ind (motive := fun n => 1 ≤ n → (decDigits n).head? ≠ some 48)
  · intro n h h1
    rw [dec_small h]
    intro e
    have e2 : UInt8.ofNat (48 + n) = 48 := by simpa using e
    have := congrArg UInt8.toNat e2
    rw [byte_of h] at this
    have h48 : (48 : UInt8).toNat = 48 := rfl
    omega
  · intro n h ih _
    rw [dec_big h]
    have := ih (by omega)
    cases hc : decDigits (n / 10) with
    | nil => have := dec_pos (n / 10); rw [hc] at this; simp at this
    | cons x t => rw [hc] at this; exact this

theorem snoc_ind {motive : List UInt8 → Prop} (h1 : motive []) (h2 : ∀ l b, motive l → motive (l ++ [b])) : ∀ l, motive l := by
  intro l
  have : ∀ l : List UInt8, motive l.reverse := by
    intro l
    induction l with
    | nil => exact h1
    | cons b l ih => rw [List.reverse_cons]; exact h2 _ b ih
  have h := this l.reverse
  rwa [List.reverse_reverse] at h

theorem val_pos : ∀ l : List UInt8, IsD l → l ≠ [] → l.head? ≠ some 48 → 1 ≤ valL l := by
  apply snoc_ind (motive := fun l => IsD l → l ≠ [] → l.head? ≠ some 48 → 1 ≤ valL l)
  · intro _ h; exact absurd rfl h
  · intro l b ih hd _ hh
    rw [valL_snoc]
    have hb := hd b (by simp)
    cases l with
    | nil =>
      have hne : b.toNat ≠ 48 := fun e => hh (by rw [List.nil_append, List.head?_cons]; congr 1; exact UInt8.toNat_inj.1 e)
      omega
    | cons x t =>
      have := ih (fun y hy => hd y (List.mem_append_left _ hy)) (by simp) (by simpa using hh)
      omega

/-- Digits without a nought ahead of others are the digits of their number. -/
theorem dec_of : ∀ l : List UInt8, IsD l → l ≠ [] → (1 < l.length → l.head? ≠ some 48) → decDigits (valL l) = l := by
  apply snoc_ind (motive := fun l => IsD l → l ≠ [] → (1 < l.length → l.head? ≠ some 48) → decDigits (valL l) = l)
  · intro _ h; exact absurd rfl h
  · intro l b ih hd _ hh
    have hb := hd b (by simp)
    rw [valL_snoc]
    have hbb : UInt8.ofNat (48 + (b.toNat - 48)) = b := by
      rw [show 48 + (b.toNat - 48) = b.toNat by omega, UInt8.ofNat_toNat]
    cases hl : l with
    | nil =>
      show decDigits (0 * 10 + (b.toNat - 48)) = [b]
      rw [dec_small (by omega), Nat.zero_mul, Nat.zero_add, hbb]
    | cons x t =>
      have hd' : IsD l := fun y hy => hd y (List.mem_append_left _ hy)
      have hne : l ≠ [] := by rw [hl]; simp
      have hh' : l.head? ≠ some 48 := by
        have := hh (by rw [hl]; simp)
        rw [hl] at this ⊢
        simpa using this
      have hp := val_pos l hd' hne hh'
      have hih := ih hd' hne (fun _ => hh')
      rw [← hl, dec_big (by omega), show (valL l * 10 + (b.toNat - 48)) / 10 = valL l by omega, show (valL l * 10 + (b.toNat - 48)) % 10 = b.toNat - 48 by omega, hih, hbb]

/-! ### sixteen -/
def digB (n : Int) : ByteArray := mk (decDigits (max n 0).toNat)

theorem isNum_list (l : List UInt8) (hd : IsD l) (h9 : l.length ≤ 9) (h1 : l ≠ []) (hh : 1 < l.length → l.head? ≠ some 48) : isNum (mk l) = true := by
  have hsz : (mk l).size = l.length := by rw [← size_list, mk_list]
  have hpos : 1 ≤ l.length := by cases l with | nil => exact absurd rfl h1 | cons _ _ => simp
  have hA : allB isDigit (mk l) = true := by
    unfold allB
    rw [mk_list, List.all_eq_true]
    intro b hb
    have := hd b hb
    unfold isDigit
    simp
    omega
  have e1 : decide (9 < (mk l).size) = false := by rw [hsz]; simp; omega
  have e2 : decide ((mk l).size = 0) = false := by rw [hsz]; simp; exact h1
  unfold isNum
  rw [e1, hA, e2]
  by_cases h : 1 < (mk l).size
  · rw [dif_pos h]
    have hne : ((mk l)[0]'(by omega)) ≠ 48 := fun e => hh (by rw [← hsz]; exact h) (by
      have := byte_at (mk l) 0 (by omega)
      rw [mk_list, e] at this
      rw [← this, List.head?_eq_getElem?])
    have : (((mk l)[0].toNat : Int) == 48) = false := by
      cases hb : (((mk l)[0].toNat : Int) == 48) with
      | false => rfl
      | true => exact absurd (UInt8.toNat_inj.1 (by have := eq_of_beq hb; have h48 : (48 : UInt8).toNat = 48 := rfl; omega)) hne
    exact (congrArg (fun b => !(false || (!(true && !false) || b))) this).trans rfl
  · rw [dif_neg h]
    rfl
theorem isNum_digits (n : Nat) (h : n ≤ 999999999) : isNum (mk (decDigits n)) = true := by
  refine isNum_list _ (dec_digits n) (dec_len n 9 (by decide) (by omega)) (fun e => by have := dec_pos n; rw [e] at this; simp at this) (fun hl => ?_)
  refine dec_head n ?_
  rcases Nat.eq_zero_or_pos n with rfl | hp
  · rw [dec_small (by decide)] at hl; simp at hl
  · exact hp

theorem num_digits (n : Nat) (h : n ≤ 999999999) (least most : Int) : numIn (digB n) least most = (decide (least ≤ (n : Int)) && decide ((n : Int) ≤ most)) ∧ numOf (digB n) least most = if (decide (least ≤ (n : Int)) && decide ((n : Int) ≤ most)) then (n : Int) else 0 := by
  have e : digB n = mk (decDigits n) := by unfold digB; congr 2; omega
  rw [e]
  unfold numOf numIn
  rw [isNum_digits n h, mk_list, dec_val, Bool.true_and]
  exact ⟨rfl, rfl⟩

theorem digB_size (n : Int) : (digB n).size = (decDigits (max n 0).toNat).length := by rw [← size_list]; unfold digB; rw [mk_list]

theorem num_iff (s : ByteArray) (h9 : s.size ≤ 9) (hd : allB isDigit s = true) : isNum s = true ↔ digB (valL s.data.toList : Nat) = s := by
  have hD : IsD s.data.toList := fun b hb => by
    unfold allB at hd
    have := List.all_eq_true.1 hd b hb
    unfold isDigit at this
    simp at this
    omega
  have e : digB (valL s.data.toList : Nat) = mk (decDigits (valL s.data.toList)) := by unfold digB; congr 2; omega
  rw [e]
  constructor
  · intro h
    obtain ⟨_, _, h1, h0⟩ := isNum_parts h
    have hne : s.data.toList ≠ [] := fun h => by rw [← size_list, h] at h1; simp at h1
    rw [dec_of s.data.toList hD hne (fun hl hh => by
      rw [size_list] at hl
      have := h0 hl
      have e2 := byte_at s 0 (by omega)
      rw [List.head?_eq_getElem?] at hh
      rw [hh] at e2
      rw [← Option.some.inj e2] at this
      exact absurd this (by decide)), mk_of]
  · intro h
    have hv : valL s.data.toList ≤ 999999999 := by
      have := valTo_lt s hd s.size (Nat.le_refl _)
      rw [valTo_all] at this
      have h2 : 10 ^ s.size ≤ 10 ^ 9 := Nat.pow_le_pow_right (by decide) h9
      omega
    have := isNum_digits _ hv
    rwa [h] at this


end Go.Proofs.YtaodckojinbdfaaGreatDoor

namespace Go.Proofs.YtaodckojinbdfaaGreatDoor
open Go.RowKit Go.Lib

/-- 'string([]byte{b})'. -/
theorem conv_one (w : World) (b : UInt8) (z : Int) (hz : z = (b.toNat : Int)) : (convert 134 9 (.slice (some ⟨w.heap.size, 0, none⟩) 1 1)).run Tryz.prog (w.alloc (.cells #[.int .u8 z] 5)) = .ok (.string (mk [b])) (w.alloc (.cells #[.int .u8 z] 5)) := by
  have h := run_convert_bytes_back (P := Tryz.prog) (w.alloc (.cells #[.int .u8 z] 5)) 134 9 5 ⟨w.heap.size, 0, none⟩ 1 [b] Tryz.underlying134 Tryz.underlying5 Tryz.underlying9 (fun j hj => by
    obtain rfl : j = 0 := by simp at hj; omega
    rw [add_at]
    simp [hz])
  exact h

theorem mk_size1 (b : UInt8) : (mk [b]).size = 1 := by rw [← size_list, mk_list]; rfl
theorem dec19 {N : Nat} (h : N ≤ 9223372036854775807) : (decDigits N).length ≤ 19 := dec_len N 19 (by decide) (by omega)

set_option maxRecDepth 20000 in
theorem rdigits_ok (n : Int) (w : World) (h1 : n ≤ 9223372036854775807) :
    Calls Tryz.prog 72 #[.int .i64 n] w fun e w' => e = .returned (.string (digB n)) ∧ Below w.heap.size w w' := by
  obtain ⟨N, hN⟩ : ∃ N : Nat, (N : Int) = max n 0 := ⟨(max n 0).toNat, by omega⟩
  have e : digB n = mk (decDigits N) := by unfold digB; congr 2; omega
  rw [e]
  have hN1 : N ≤ 9223372036854775807 := by omega
  have HL := dec19 hN1
  clear e
  by_cases hneg : n < 0
  · have hN0 : N = 0 := by omega
    clear hN
    subst hN0
    go_enter Tryz.func72, Tryz.ntmps72
    go_wp2_with fail
    go_loopw [0, 3] (fun x s3 wr => ∃ (k : Nat) (S : ByteArray), x = .int .i64 k ∧ s3 = .string S ∧ k ≤ 9223372036854775807 ∧ Hd (decDigits 0 = decDigits k ++ S.data.toList) ∧ Below w.heap.size w wr) (fun x _ _ => (intOf x).toNat)
    case atStart => exact ⟨0, ⟨#[]⟩, rfl, rfl, hN1, ⟨by show _ = _ ++ []; rw [List.append_nil]⟩, Below.refl _ _⟩
    case round =>
      obtain ⟨k, S, rfl, rfl, hk, hS, p3⟩ := hrel
      have hsz : S.size ≤ 19 := by
        have := congrArg List.length hS.out
        rw [List.length_append, size_list] at this
        omega
      by_cases h9 : 9 < k
      · have e1 : (k : Int).tmod 10 = ((k % 10 : Nat) : Int) := (Int.ofNat_tmod _ _).symm
        have e2 : (k : Int).tdiv 10 = ((k / 10 : Nat) : Int) := (Int.ofNat_tdiv _ _).symm
        have ht : k % 10 < 10 := Nat.mod_lt _ (by decide)
        have CV := conv_one wr (UInt8.ofNat (48 + k % 10)) (48 + ((k % 10 : Nat) : Int)) (by rw [byte_of ht]; omega)
        have hS' : Hd (decDigits 0 = decDigits (k / 10) ++ (mk [UInt8.ofNat (48 + k % 10)] ++ S).data.toList) := ⟨by rw [hS.out, dec_big (by omega), cat_list, mk_list, List.append_assoc]⟩
        have hlt : k / 10 < k := by omega
        have P4 : Hd (Below w.heap.size w (wr.alloc (.cells #[.int .u8 (48 + ((k % 10 : Nat) : Int))] 5))) := ⟨p3.alloc p3.size _⟩
        have hx1 : (mk [UInt8.ofNat (48 + k % 10)]).size = 1 := mk_size1 _
        clear hS p3
        generalize mk [UInt8.ofNat (48 + k % 10)] = x at *
        generalize k % 10 = t at *
        generalize k / 10 = u at *
        go_wp2_with fail
        go_roundw
        case rel => exact ⟨u, x ++ S, rfl, rfl, by omega, hS', P4.out⟩
        case measure => simp [intOf]; omega
      · have CV := conv_one wr (UInt8.ofNat (48 + k)) (48 + (k : Int)) (by rw [byte_of (by omega)]; omega)
        have hS' : Hd (mk (decDigits 0) = mk [UInt8.ofNat (48 + k)] ++ S) := ⟨list_inj (by rw [mk_list, hS.out, dec_small (by omega), cat_list, mk_list])⟩
        have P4 : Hd (Below w.heap.size w (wr.alloc (.cells #[.int .u8 (48 + (k : Int))] 5))) := ⟨p3.alloc p3.size _⟩
        have hx1 : (mk [UInt8.ofNat (48 + k)]).size = 1 := mk_size1 _
        clear hS p3
        generalize mk [UInt8.ofNat (48 + k)] = x at *
        go_wp2_with fail
        go_ret
        exact ⟨by rw [hS'.out]; rfl, P4.out⟩
  · obtain rfl : n = (N : Int) := by omega
    clear hN
    go_enter Tryz.func72, Tryz.ntmps72
    go_wp2_with fail
    go_loopw [0, 3] (fun x s3 wr => ∃ (k : Nat) (S : ByteArray), x = .int .i64 k ∧ s3 = .string S ∧ k ≤ 9223372036854775807 ∧ Hd (decDigits N = decDigits k ++ S.data.toList) ∧ Below w.heap.size w wr) (fun x _ _ => (intOf x).toNat)
    case atStart => exact ⟨N, ⟨#[]⟩, rfl, rfl, hN1, ⟨by show _ = _ ++ []; rw [List.append_nil]⟩, Below.refl _ _⟩
    case round =>
      obtain ⟨k, S, rfl, rfl, hk, hS, p3⟩ := hrel
      have hsz : S.size ≤ 19 := by
        have := congrArg List.length hS.out
        rw [List.length_append, size_list] at this
        omega
      by_cases h9 : 9 < k
      · have e1 : (k : Int).tmod 10 = ((k % 10 : Nat) : Int) := (Int.ofNat_tmod _ _).symm
        have e2 : (k : Int).tdiv 10 = ((k / 10 : Nat) : Int) := (Int.ofNat_tdiv _ _).symm
        have ht : k % 10 < 10 := Nat.mod_lt _ (by decide)
        have CV := conv_one wr (UInt8.ofNat (48 + k % 10)) (48 + ((k % 10 : Nat) : Int)) (by rw [byte_of ht]; omega)
        have hS' : Hd (decDigits N = decDigits (k / 10) ++ (mk [UInt8.ofNat (48 + k % 10)] ++ S).data.toList) := ⟨by rw [hS.out, dec_big (by omega), cat_list, mk_list, List.append_assoc]⟩
        have hlt : k / 10 < k := by omega
        have P4 : Hd (Below w.heap.size w (wr.alloc (.cells #[.int .u8 (48 + ((k % 10 : Nat) : Int))] 5))) := ⟨p3.alloc p3.size _⟩
        have hx1 : (mk [UInt8.ofNat (48 + k % 10)]).size = 1 := mk_size1 _
        clear hS p3
        generalize mk [UInt8.ofNat (48 + k % 10)] = x at *
        generalize k % 10 = t at *
        generalize k / 10 = u at *
        go_wp2_with fail
        go_roundw
        case rel => exact ⟨u, x ++ S, rfl, rfl, by omega, hS', P4.out⟩
        case measure => simp [intOf]; omega
      · have CV := conv_one wr (UInt8.ofNat (48 + k)) (48 + (k : Int)) (by rw [byte_of (by omega)]; omega)
        have hS' : Hd (mk (decDigits N) = mk [UInt8.ofNat (48 + k)] ++ S) := ⟨list_inj (by rw [mk_list, hS.out, dec_small (by omega), cat_list, mk_list])⟩
        have P4 : Hd (Below w.heap.size w (wr.alloc (.cells #[.int .u8 (48 + (k : Int))] 5))) := ⟨p3.alloc p3.size _⟩
        have hx1 : (mk [UInt8.ofNat (48 + k)]).size = 1 := mk_size1 _
        clear hS p3
        generalize mk [UInt8.ofNat (48 + k)] = x at *
        go_wp2_with fail
        go_ret
        exact ⟨by rw [hS'.out]; rfl, P4.out⟩

end Go.Proofs.YtaodckojinbdfaaGreatDoor

namespace Go.Proofs.YtaodckojinbdfaaGreatDoor
open Go.RowKit Go.Lib

theorem valTo_lt2 (s : ByteArray) : ∀ k, k ≤ s.size → (∀ j (h : j < s.size), j < k → 48 ≤ s[j].toNat ∧ s[j].toNat ≤ 57) → valTo s k < 10 ^ k
  | 0, _, _ => by rw [valTo_zero]; decide
  | k + 1, h, hd => by
    have ih := valTo_lt2 s k (by omega) (fun j hj hk => hd j hj (by omega))
    have hb := hd k (by omega) (by omega)
    rw [valTo_succ s k (by omega), Nat.pow_succ]
    omega
theorem num_bad {s : ByteArray} (k : Nat) (hk : k < s.size) (h : ¬ (48 ≤ s[k].toNat ∧ s[k].toNat ≤ 57)) (least most : Int) : numIn s least most = false ∧ numOf s least most = 0 := by
  have hd : isDigit (s[k].toNat : Int) = false := by unfold isDigit; simp; omega
  have hA := allB_no k hk hd
  have hN : isNum s = false := by
    cases h2 : isNum s with
    | false => rfl
    | true => have := (isNum_parts h2).2.1; rw [hA] at this; cases this
  have e : numIn s least most = false := by unfold numIn; rw [hN]; rfl
  exact ⟨e, by unfold numOf; rw [e]; rfl⟩
theorem num_long {s : ByteArray} (h : 9 < s.size) (least most : Int) : numIn s least most = false ∧ numOf s least most = 0 := by
  have hN : isNum s = false := by
    cases h2 : isNum s with
    | false => rfl
    | true => have := (isNum_parts h2).1; omega
  have e : numIn s least most = false := by unfold numIn; rw [hN]; rfl
  exact ⟨e, by unfold numOf; rw [e]; rfl⟩

set_option maxRecDepth 20000 in
theorem rnumber_ok (s : ByteArray) (least most : Int) (hs : s.size ≤ 9223372036854775807) (w : World) :
    Calls Tryz.prog 58 #[.string s, .int .i64 least, .int .i64 most] w fun e w' => e = .returned (.tuple #[.int .i64 (numOf s least most), .bool (numIn s least most)]) ∧ Below w.heap.size w w' := by
  have HB : Hd (∀ k (hk : k < s.size), ¬ (48 ≤ s[k].toNat ∧ s[k].toNat ≤ 57) → numIn s least most = false ∧ numOf s least most = 0) := ⟨fun k hk h => num_bad k hk h least most⟩
  have HLg : Hd (9 < s.size → numIn s least most = false ∧ numOf s least most = 0) := ⟨fun h => num_long h least most⟩
  have HI : Hd (∀ v : Nat, s.size ≤ 9 → v = valTo s s.size → (∀ j (h : j < s.size), 48 ≤ s[j].toNat ∧ s[j].toNat ≤ 57) →
      (digB (v : Int) ≠ s → numIn s least most = false ∧ numOf s least most = 0) ∧
      (digB (v : Int) = s → numIn s least most = (decide (least ≤ (v : Int)) && decide ((v : Int) ≤ most)) ∧ numOf s least most = if (decide (least ≤ (v : Int)) && decide ((v : Int) ≤ most)) then (v : Int) else 0)) := ⟨fun v h9 hv hd => by
    have hA : allB isDigit s = true := (allB_iff _ _).2 fun j hj => by have := hd j hj; unfold isDigit; simp; omega
    rw [valTo_all] at hv
    subst hv
    have := num_iff s h9 hA
    constructor
    · intro hne
      have hN : isNum s = false := by
        cases h2 : isNum s with
        | false => rfl
        | true => exact absurd (this.1 h2) hne
      have e : numIn s least most = false := by unfold numIn; rw [hN]; rfl
      exact ⟨e, by unfold numOf; rw [e]; rfl⟩
    · intro he
      unfold numOf numIn
      rw [this.2 he, Bool.true_and]
      exact ⟨rfl, rfl⟩⟩
  have HV : Hd (∀ k, k ≤ s.size → k ≤ 10 → (∀ j (h : j < s.size), j < k → 48 ≤ s[j].toNat ∧ s[j].toNat ≤ 57) → valTo s k < 10 ^ 10) := ⟨fun k h1 h2 h3 => Nat.lt_of_lt_of_le (valTo_lt2 s k h1 h3) (Nat.pow_le_pow_right (by decide) h2)⟩
  go_enter Tryz.func58, Tryz.ntmps58
  go_wp2_with fail
  go_loop [8, 9] (fun x i => ∃ k v : Nat, k ≤ s.size ∧ k ≤ 10 ∧ i = .int .i64 k ∧ x = .int .i64 v ∧ Hd (v = valTo s k ∧ ∀ j (h : j < s.size), j < k → 48 ≤ s[j].toNat ∧ s[j].toNat ≤ 57)) (fun _ i => 10 - (intOf i).toNat)
  case atStart => exact ⟨0, 0, Nat.zero_le _, Nat.zero_le _, rfl, rfl, ⟨(valTo_zero s).symm, fun j _ h => absurd h (Nat.not_lt_zero _)⟩⟩
  case round =>
    obtain ⟨k, v, hk, hk10, rfl, rfl, hv⟩ := hrel
    have hvl : v < 10 ^ 10 := by rw [hv.out.1]; exact HV.out k hk hk10 hv.out.2
    by_cases hlt : k < s.size
    · by_cases hlt10 : k < 10
      · by_cases hlo : (s[k].toNat : Int) < 48
        · have R : Hd (_ ∧ _) := ⟨HB.out k hlt (by omega)⟩
          clear HB HLg HI HV hv
          go_wp2_with fail
          go_ret2
          exact ⟨by rw [R.out.1, R.out.2]; rfl, Below.refl _ _⟩
        · by_cases hhi : 57 < (s[k].toNat : Int)
          · have R : Hd (_ ∧ _) := ⟨HB.out k hlt (by omega)⟩
            clear HB HLg HI HV hv
            go_wp2_with fail
            go_ret2
            exact ⟨by rw [R.out.1, R.out.2]; rfl, Below.refl _ _⟩
          · have hv' : Hd (v * 10 + (s[k].toNat - 48) = valTo s (k + 1) ∧ ∀ j (h : j < s.size), j < k + 1 → 48 ≤ s[j].toNat ∧ s[j].toNat ≤ 57) := ⟨by rw [valTo_succ s k hlt, ← hv.out.1], fun j h hj => by
              by_cases e : j = k
              · subst e; omega
              · exact hv.out.2 j h (by omega)⟩
            have hbyte : s[k].toNat < 256 := s[k].toNat_lt
            clear HB HLg HI HV hv
            go_wp2_with fail
            go_round
            case rel => exact ⟨k + 1, v * 10 + (s[k].toNat - 48), by omega, by omega, by go_num, by congr 1; omega, hv'⟩
            case measure => simp [intOf]; omega
      · obtain rfl : k = 10 := by omega
        have R : Hd (_ ∧ _) := ⟨HLg.out (by omega)⟩
        clear HB HLg HI HV hv
        go_wp2_with fail
        go_ret2
        exact ⟨by rw [R.out.1, R.out.2]; rfl, Below.refl _ _⟩
    · obtain rfl : k = s.size := by omega
      by_cases h9 : 9 < s.size
      · have R : Hd (_ ∧ _) := ⟨HLg.out h9⟩
        clear HB HLg HI HV hv
        go_wp2_with fail
        go_ret2
        exact ⟨by rw [R.out.1, R.out.2]; rfl, Below.refl _ _⟩
      · obtain ⟨i1, i2⟩ := HI.out v (by omega) hv.out.1 (fun j hj => hv.out.2 j hj hj)
        have D := fun w => rdigits_ok (v : Int) w (by omega)
        by_cases he : digB (v : Int) = s
        · have R : Hd (_ ∧ _) := ⟨i2 he⟩
          rw [he] at D
          clear HB HLg HI HV hv i1 i2 he
          by_cases c1 : (v : Int) < least
          · have c2 : decide (least ≤ (v : Int)) = false := by simp; omega
            go_wp2_with (go_at_call 72; refine (D _).mono ?_; rintro e w1 ⟨rfl, hb1⟩)
            go_ret2
            exact ⟨by rw [R.out.1, R.out.2, c2]; rfl, hb1⟩
          · have c2 : decide (least ≤ (v : Int)) = true := by simp; omega
            by_cases c3 : most < (v : Int)
            · have c4 : decide ((v : Int) ≤ most) = false := by simp; omega
              go_wp2_with (go_at_call 72; refine (D _).mono ?_; rintro e w1 ⟨rfl, hb1⟩)
              go_ret2
              exact ⟨by rw [R.out.1, R.out.2, c2, c4]; rfl, hb1⟩
            · have c4 : decide ((v : Int) ≤ most) = true := by simp; omega
              go_wp2_with (go_at_call 72; refine (D _).mono ?_; rintro e w1 ⟨rfl, hb1⟩)
              go_ret2
              exact ⟨by rw [R.out.1, R.out.2, c2, c4]; rfl, hb1⟩
        · have R : Hd (_ ∧ _) := ⟨i1 he⟩
          have ne := str_ne he
          clear HB HLg HI HV hv i1 i2 he
          generalize digB (v : Int) = y at *
          go_wp2_with (go_at_call 72; refine (D _).mono ?_; rintro e w1 ⟨rfl, hb1⟩)
          go_ret2
          exact ⟨by rw [R.out.1, R.out.2]; rfl, hb1⟩

end Go.Proofs.YtaodckojinbdfaaGreatDoor
