/-
  What 'strings.Split', 'strings.SplitN' at one byte, 'strings.FieldsFunc' at blanks and 'Lines', 'Words', 'List' of the program answer. Condition: the text has at most 2^31 bytes.
-/
import Derived.Test.YtooaojegdhamjaaDoorWalkB
import Derived.Test.YtooaojegdhamjaaDoorMathA
import Derived.Test.YtooaojegdhamjaaDoorShelf
namespace Go.Proofs.YtooaojegdhamjaaDoor
open Go.RowKit Go.Lib Go.Shelf

theorem info9 : (Tryd.prog.info? 9).map (fun i => (i.zero, i.size, i.bytes)) = some (some (.string ByteArray.empty), 1, 16) := by kernel_rfl

theorem countB_one (s : ByteArray) (c : UInt8) : countB s ⟨#[c]⟩ = s.data.toList.count c := by
  show Lib.count s.data.toList [c] = _
  rw [Lib.count_one]
theorem indexB_one (s : ByteArray) (c : UInt8) : indexB s ⟨#[c]⟩ = indexByte s.data.toList c := by
  show Lib.index s.data.toList [c] = _
  rw [index_one_eq]

theorem gensplit_one (s : ByteArray) (c : UInt8) (n : Int) (N : Nat) (w : World) (hs : s.size < 4294967281) (hn0 : n ≠ 0) (hn63 : n ≤ 9223372036854775807)
    (hN : (N : Int) = min (if n < 0 then (countB s ⟨#[c]⟩ : Int) + 1 else n) ((s.size : Int) + 1)) :
    Calls Tryd.prog 90 #[.string s, .string ⟨#[c]⟩, .int .i64 0, .int .i64 n] w fun e w' =>
      e = .returned (.slice (some ⟨w.heap.size, 0, none⟩) (splitB ⟨#[c]⟩ 0 (N - 1) s).length N) ∧ w' = w.alloc (.cells (Lib.cellsOf (splitB ⟨#[c]⟩ 0 (N - 1) s) N) 9) :=
  Any.strings_genSplit_core Tryd.laysSplit info9 s ⟨#[c]⟩ 0 n N w hs (Nat.le_refl 1) (Nat.zero_le _)
    (fun x a _ => (Any.strings_Index_one (ρ := Tryd.laysSplit_ren) { Tryd.laysSplit with } x c _).mono fun e w' ⟨he, hw⟩ => ⟨by rw [he, indexB_one], hw⟩)
    ((Any.strings_Count_one (ρ := Tryd.laysSplit_ren) { Tryd.laysSplit with } s c w).mono fun e w' ⟨he, hw⟩ => ⟨by rw [he, countB_one]; rfl, hw⟩) hn0 hn63 hN

theorem count_le (s : ByteArray) (c : UInt8) : s.data.toList.count c ≤ s.size := by
  rw [← size_list]; exact List.count_le_length

/-- A row that was laid anew. -/
theorem row_new (w : World) (L : List ByteArray) (N : Nat) : RowL (w.alloc (.cells (Lib.cellsOf L N) 9)) (some ⟨w.heap.size, 0, none⟩) L := by
  intro hn
  refine ⟨w.heap.size, 0, rfl, by simp, fun k hk => ?_⟩
  rw [Nat.zero_add, World.cell?_alloc_new]
  unfold Lib.cellsOf
  rw [List.getElem?_toArray, List.getElem?_append_left (by simpa using hk), List.getElem?_map, List.getElem?_eq_getElem hk, gt_eq hk]
  rfl

theorem splitN_ok (s : ByteArray) (c : UInt8) (w : World) (hs : s.size < 4294967281) :
    Calls Tryd.prog 82 #[.string s, .string ⟨#[c]⟩, .int .i64 9] w fun e w' => ∃ (L : List ByteArray) (N : Nat), e = .returned (.slice (some ⟨w.heap.size, 0, none⟩) L.length N) ∧ L.length ≤ N ∧ N ≤ 9 ∧ RowL w' (some ⟨w.heap.size, 0, none⟩) L ∧ Below w.heap.size w w' ∧
      L = splitB ⟨#[c]⟩ 0 (min 9 (s.size + 1) - 1) s := by
  have hc := count_le s c
  have G := gensplit_one s c 9 (min 9 (s.size + 1)) w hs (by decide) (by decide) (by rw [if_neg (by decide)]; omega)
  have hl := splitB_length_le ⟨#[c]⟩ 0 (min 9 (s.size + 1) - 1) s
  generalize splitB ⟨#[c]⟩ 0 (min 9 (s.size + 1) - 1) s = L at *
  generalize hM : min 9 (s.size + 1) = M at *
  go_enter Tryd.func82, Tryd.ntmps82
  go_wp2_with (go_at_call 90; refine G.mono ?_; rintro e w' ⟨rfl, hw⟩)
  go_ret
  subst hw
  exact ⟨L, M, rfl, by omega, by omega, row_new w _ _, (Below.refl _ w).alloc (Nat.le_refl _) _, rfl⟩

/-- The lines of a text. -/
def linesB (s : ByteArray) : List ByteArray := if gt (cutB 10 s) ((cutB 10 s).length - 1) = ⟨#[]⟩ then (cutB 10 s).dropLast else cutB 10 s

theorem gt_dropLast {L : List ByteArray} {k : Nat} (h : k < L.dropLast.length) : gt L.dropLast k = gt L k := by
  rw [List.length_dropLast] at h
  rw [gt_eq (by rw [List.length_dropLast]; exact h), gt_eq (by omega), List.getElem_dropLast]
theorem RowL.dropLast {w : World} {a : Option Addr} {L : List ByteArray} (h : RowL w a L) : RowL w a L.dropLast := by
  intro hn
  have hn' : 0 < L.length := by rw [List.length_dropLast] at hn; omega
  obtain ⟨b, off, e, hb, hc⟩ := h hn'
  refine ⟨b, off, e, hb, fun k hk => ?_⟩
  rw [gt_dropLast hk]
  rw [List.length_dropLast] at hk
  exact hc k (by omega)

theorem blank_int (r : Nat) : ((r : Int) == 32) = isBlank r := by
  unfold isBlank
  by_cases h : r = 32
  · subst h; rfl
  · have h1 : ((r : Int) == 32) = false := by simp; omega
    have h2 : (r == 32) = false := by simpa using h
    rw [h1, h2]
theorem blank_ok (w : World) : PredAtRunes Tryd.prog 33 #[] isBlank w := fun W r _ _ => by
  unfold FnGives
  rw [← blank_int]
  show Calls Tryd.prog 33 #[.int .i32 (r : Int)] W _
  go_enter Tryd.func33, Tryd.ntmps33
  go_wp2
  go_ret
  exact ⟨rfl, 0, rfl⟩

theorem row_owned {w : World} {B c A : Nat} {L : List ByteArray} (h : w.ownsRow B 9 1 (.slice (some ⟨A, 0, none⟩) L.length c) L.length (L.map Value.string)) : RowL w (some ⟨A, 0, none⟩) L := by
  intro hn
  refine ⟨A, 0, rfl, (h.lt A rfl).2, fun k hk => ?_⟩
  rw [Nat.zero_add, h.cellAt k (by omega), List.getElem?_map, List.getElem?_eq_getElem hk, gt_eq hk]
  rfl

theorem words_ok (s : ByteArray) (w : World) (hs : s.size ≤ 4294967296) :
    Calls Tryd.prog 17 #[.string s] w fun e w' => ∃ a, e = .returned (.slice a (wordsB s).length (wordsB s).length) ∧ RowL w' a (wordsB s) ∧ Below w.heap.size w w' ∧ (∀ b off, a = some ⟨b, off, none⟩ → b < w'.heap.size) := by
  have F := Any.strings_FieldsFunc_runes Tryd.laysFields 33 #[] (enters_of Tryd.func33 (by kernel_rfl) rfl) isBlank s w hs (blank_ok w) (by kernel_rfl) (by kernel_rfl)
  rw [fields_words] at F
  have F' : Calls Tryd.prog 32 #[.string s, .func (.func 33) #[] #[]] w fun e w' => ∃ A, e = .returned (.slice (some ⟨A, 0, none⟩) (wordsB s).length (wordsB s).length) ∧ RowL w' (some ⟨A, 0, none⟩) (wordsB s) ∧ Below w.heap.size w w' ∧ A < w'.heap.size :=
    Calls.mono F fun e w' ⟨A, he, _, ho, hb⟩ => ⟨A, he, row_owned ho, hb, (ho.lt A rfl).2⟩
  clear F
  generalize wordsB s = L at *
  go_enter Tryd.func17, Tryd.ntmps17
  go_wp2_with (go_at_call 32; refine F'.mono ?_; rintro e w' ⟨A, rfl, hr, hb, hA⟩)
  go_ret
  exact ⟨_, rfl, hr, hb, fun _ _ h => by cases h; exact hA⟩

/-- What a text is as a list, and whether it is one. -/
def listOk (s : ByteArray) : Bool := if s = mk [45] then true else if s = mk [42] then true else good (cutB 44 s)
def listOf (s : ByteArray) : List ByteArray := if s = mk [45] then [] else if s = mk [42] then [mk [42]] else if good (cutB 44 s) then cutB 44 s else []

theorem piece_le (c : UInt8) : ∀ (l : List UInt8), ∀ x ∈ cutL c l, x.length ≤ l.length
  | [], x, h => by
    have : x = [] := by simpa [cutL] using h
    subst this; simp
  | b :: l, x, h => by
    have ih := piece_le c l
    unfold cutL at h
    split at h
    · rcases List.mem_cons.1 h with rfl | h
      · simp
      · have := ih x h; simp; omega
    · rcases List.mem_cons.1 h with rfl | h
      · have hne := cutL_ne c l
        cases hc : cutL c l with
        | nil => exact absurd hc hne
        | cons y t =>
          have := ih y (by rw [hc]; exact List.mem_cons_self ..)
          simp; omega
      · have := ih x (List.mem_of_mem_tail h); simp; omega
theorem pieceK_le (c : UInt8) : ∀ (k : Nat) (l : List UInt8), ∀ x ∈ splitK [c] 0 k l, x.length ≤ l.length
  | 0, l, x, h => by
    have : x = l := by simpa [splitK] using h
    subst this; exact Nat.le_refl _
  | k + 1, l, x, h => by
    unfold splitK at h
    split at h
    · have : x = l := by simpa using h
      subst this; exact Nat.le_refl _
    · rcases List.mem_cons.1 h with rfl | h
      · rw [List.length_take]; omega
      · have := pieceK_le c k _ x h
        rw [List.length_drop] at this
        omega
theorem short_split (c : UInt8) (k : Nat) (s : ByteArray) (hs : s.size < 4294967281) : Short (splitB ⟨#[c]⟩ 0 k s) := fun j hj => by
  have := gt_mem hj
  rw [splitB_mk] at this
  obtain ⟨x, hx, e⟩ := List.mem_map.1 this
  rw [splitB_mk, ← e, ← size_list, mk_list]
  have := pieceK_le c k _ x hx
  rw [size_list] at this
  omega

theorem good_split (s : ByteArray) : good (splitB ⟨#[44]⟩ 0 (min 9 (s.size + 1) - 1) s) = good (cutB 44 s) ∧ (good (cutB 44 s) = true → splitB ⟨#[44]⟩ 0 (min 9 (s.size + 1) - 1) s = cutB 44 s) := by
  have hc := count_le s 44
  by_cases h : s.data.toList.count 44 ≤ min 9 (s.size + 1) - 1
  · rw [splitB_all' 44 _ s h]
    exact ⟨rfl, fun _ => rfl⟩
  · have e1 : good (cutB 44 s) = false := good_no fun g => by have := g.1; rw [cutB_len] at this; omega
    have e2 : good (splitB ⟨#[44]⟩ 0 (min 9 (s.size + 1) - 1) s) = false := good_no fun g => by have := g.1; rw [splitB_many 44 _ s (by omega)] at this; omega
    rw [e1, e2]
    exact ⟨rfl, fun h => by cases h⟩

theorem str_eq_yes {x y : ByteArray} (h : x = y) : (x.toList == y.toList) = true := by subst h; simp

theorem list_ok (s : ByteArray) (w : World) (hs : s.size < 4294967281) :
    Calls Tryd.prog 70 #[.string s] w fun e w' => ∃ a c, e = .returned (.tuple #[.slice a (listOf s).length c, .bool (listOk s)]) ∧ RowL w' a (listOf s) ∧ (listOf s).length ≤ c ∧ Below w.heap.size w w' ∧ (∀ b off, a = some ⟨b, off, none⟩ → w.heap.size ≤ b) := by
  by_cases h1 : s = mk [45]
  · have e1 : listOf s = [] := by unfold listOf; rw [if_pos h1]
    have e2 : listOk s = true := by unfold listOk; rw [if_pos h1]
    rw [e1, e2]
    subst h1
    show Calls Tryd.prog 70 #[.string ⟨#[45]⟩] w _
    go_enter Tryd.func70, Tryd.ntmps70
    go_wp2_with fail
    go_ret2
    exact ⟨none, 0, rfl, fun h => absurd h (Nat.lt_irrefl 0), Nat.le_refl _, Below.refl _ _, fun _ _ h => by cases h⟩
  by_cases h2 : s = mk [42]
  · have e1 : listOf s = [mk [42]] := by unfold listOf; rw [if_neg h1, if_pos h2]
    have e2 : listOk s = true := by unfold listOk; rw [if_neg h1, if_pos h2]
    rw [e1, e2]
    subst h2
    show Calls Tryd.prog 70 #[.string ⟨#[42]⟩] w _
    go_enter Tryd.func70, Tryd.ntmps70
    go_wp2_with fail
    go_ret2
    refine ⟨_, _, rfl, fun _ => ⟨w.heap.size, 0, rfl, by simp, fun k hk => ?_⟩, Nat.le_refl _, (Below.refl _ w).alloc (Nat.le_refl _) _, fun _ _ h => by cases h; exact Nat.le_refl _⟩
    obtain rfl : k = 0 := by simp at hk; omega
    simp [gt, mk]
  have n1 : (s.toList == [45]) = false := by have := str_ne h1; rw [ByteArray.toList_eq (mk [45]), mk_list] at this; exact this
  have n2 : (s.toList == [42]) = false := by have := str_ne h2; rw [ByteArray.toList_eq (mk [42]), mk_list] at this; exact this
  obtain ⟨g1, g2⟩ := good_split s
  have S := splitN_ok s 44 w hs
  have sh := short_split 44 (min 9 (s.size + 1) - 1) s hs
  have r2 : listOk s = good (cutB 44 s) := by unfold listOk; rw [if_neg h1, if_neg h2]
  have r1 : listOf s = if good (cutB 44 s) then cutB 44 s else [] := by unfold listOf; rw [if_neg h1, if_neg h2]
  rw [← g1] at r1 r2 g2
  have R1 : Hd (_ = _) := ⟨r1⟩
  have R2 : Hd (_ = _) := ⟨r2⟩
  have G2 : Hd (good (splitB ⟨#[44]⟩ 0 (min 9 (s.size + 1) - 1) s) = true → splitB ⟨#[44]⟩ 0 (min 9 (s.size + 1) - 1) s = cutB 44 s) := ⟨g2⟩
  clear r1 r2 g1 g2 h1 h2
  generalize listOf s = R at *
  generalize listOk s = ok at *
  generalize cutB 44 s = C at *
  generalize splitB ⟨#[44]⟩ 0 (min 9 (s.size + 1) - 1) s = L at *
  go_enter Tryd.func70, Tryd.ntmps70
  go_wp2_with fail
  go_at_call 82
  refine S.mono ?_
  rintro e w1 ⟨L', N, rfl, hN1, hN2, hr, hb, hL⟩
  subst hL
  have U := unlike_ok (some ⟨w.heap.size, 0, none⟩) N L' w1 hr sh hN1 (by omega)
  have hr' : Hd (RowL w1 (some ⟨w.heap.size, 0, none⟩) L') := ⟨hr⟩
  clear hr sh S
  cases hg : good L' with
  | false =>
    have o1 : R = [] := by rw [R1.out, if_neg (by rw [hg]; decide)]
    have o2 : ok = false := by rw [R2.out, hg]
    subst o1 o2
    rw [hg] at U
    clear R1 R2 G2 hg
    go_wp2_with (go_at_call 58; refine U.mono ?_; rintro e w' ⟨rfl, hw⟩; obtain rfl := hw.symm)
    go_ret2
    exact ⟨none, 0, rfl, fun h => absurd h (Nat.lt_irrefl 0), Nat.le_refl _, hb, fun _ _ h => by cases h⟩
  | true =>
    have o1 : R = L' := by rw [R1.out, if_pos hg, G2.out hg]
    have o2 : ok = true := by rw [R2.out, hg]
    subst o1 o2
    rw [hg] at U
    clear R1 R2 G2 hg
    generalize hlen : R.length = m at *
    go_wp2_with (go_at_call 58; refine U.mono ?_; rintro e w' ⟨rfl, hw⟩; obtain rfl := hw.symm)
    go_ret2
    exact ⟨some ⟨w.heap.size, 0, none⟩, N, by rw [hlen]; rfl, hr'.out, by rw [hlen]; exact hN1, hb, fun _ _ h => by cases h; exact Nat.le_refl _⟩

end Go.Proofs.YtooaojegdhamjaaDoor
