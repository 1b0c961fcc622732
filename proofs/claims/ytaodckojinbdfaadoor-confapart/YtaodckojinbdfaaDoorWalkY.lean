/-
  'Lines', 'Words' and 'List' of the program: their answers lie in memory of their own. Condition: the text has at most 2^31 bytes.
-/
import Derived.Test.YtaodckojinbdfaaDoorWalkD
import Derived.Test.YtaodckojinbdfaaDoorMemC
namespace Go.Proofs.YtaodckojinbdfaaDoor
open Go.RowKit Go.Lib Go.Shelf

theorem row_newY (w : World) (L : List ByteArray) (N : Nat) : RowY w.heap.size (w.alloc (.cells (Lib.cellsOf L N) 9)) (some ⟨w.heap.size, 0, none⟩) L := by
  intro hn
  refine ⟨w.heap.size, 0, _, (0, 0), rfl, ⟨Nat.le_refl _, rfl⟩, Blk.new w 9 _, fun k hk => ?_⟩
  rw [Nat.zero_add]
  unfold Lib.cellsOf
  rw [List.getElem?_toArray, List.getElem?_append_left (by simpa using hk), List.getElem?_map, List.getElem?_eq_getElem hk, gt_eq hk]
  rfl
theorem row_ownedY {w : World} {B c A : Nat} {L : List ByteArray} (h : w.ownsRow B 9 1 (.slice (some ⟨A, 0, none⟩) L.length c) L.length (L.map Value.string)) : RowY B w (some ⟨A, 0, none⟩) L := by
  intro hn
  rcases id h.2 with ⟨e, _⟩ | ⟨g, cap, cur, e, hb, hg, _, _, _, ht⟩
  · cases e
  · cases e
    refine ⟨A, 0, cur, (0, 0), rfl, ⟨hb, rfl⟩, hg, fun k hk => ?_⟩
    have h1 := h.cellAt k (by omega)
    rw [List.getElem?_map, List.getElem?_eq_getElem hk] at h1
    have h2 : w.cell? ⟨A, k, none⟩ = cur[k]? := by simp [World.cell?, hg]
    rw [Nat.zero_add, ← h2, h1, gt_eq hk]
    rfl
theorem RowY.dropLast {B : Nat} {w : World} {a : Option Addr} {L : List ByteArray} (h : RowY B w a L) : RowY B w a L.dropLast := by
  intro hn
  obtain ⟨b, off, cur, f, e, hB, hb, hc⟩ := h (by rw [List.length_dropLast] at hn; omega)
  refine ⟨b, off, cur, f, e, hB, hb, fun k hk => ?_⟩
  rw [gt_dropLast hk]
  rw [List.length_dropLast] at hk
  exact hc k (by omega)

theorem split_y (s : ByteArray) (c : UInt8) (w : World) (hs : s.size < 4294967281) :
    Calls Tryd.prog 27 #[.string s, .string ⟨#[c]⟩] w fun e w' => e = .returned (.slice (some ⟨w.heap.size, 0, none⟩) (cutB c s).length (cutB c s).length) ∧ RowY w.heap.size w' (some ⟨w.heap.size, 0, none⟩) (cutB c s) ∧ Below w.heap.size w w' := by
  have hc := count_le s c
  have G := gensplit_one s c (-1) (s.data.toList.count c + 1) w hs (by decide) (by decide) (by rw [if_pos (by decide), countB_one]; omega)
  rw [Nat.add_sub_cancel, splitB_all' c _ s (Nat.le_refl _), ← cutB_len] at G
  go_enter Tryd.func27, Tryd.ntmps27
  go_wp2_with (go_at_call 45; refine G.mono ?_; rintro e w' ⟨rfl, hw⟩)
  go_ret
  subst hw
  exact ⟨rfl, row_newY w _ _, (Below.refl _ w).alloc (Nat.le_refl _) _⟩


theorem splitN_y (s : ByteArray) (c : UInt8) (w : World) (hs : s.size < 4294967281) :
    Calls Tryd.prog 76 #[.string s, .string ⟨#[c]⟩, .int .i64 9] w fun e w' => ∃ (L : List ByteArray) (N : Nat), e = .returned (.slice (some ⟨w.heap.size, 0, none⟩) L.length N) ∧ L.length ≤ N ∧ N ≤ 9 ∧ RowY w.heap.size w' (some ⟨w.heap.size, 0, none⟩) L ∧ Below w.heap.size w w' ∧
      L = splitB ⟨#[c]⟩ 0 (min 9 (s.size + 1) - 1) s := by
  have hc := count_le s c
  have G := gensplit_one s c 9 (min 9 (s.size + 1)) w hs (by decide) (by decide) (by rw [if_neg (by decide)]; omega)
  have hl := splitB_length_le ⟨#[c]⟩ 0 (min 9 (s.size + 1) - 1) s
  generalize splitB ⟨#[c]⟩ 0 (min 9 (s.size + 1) - 1) s = L at *
  generalize hM : min 9 (s.size + 1) = M at *
  go_enter Tryd.func76, Tryd.ntmps76
  go_wp2_with (go_at_call 45; refine G.mono ?_; rintro e w' ⟨rfl, hw⟩)
  go_ret
  subst hw
  exact ⟨L, M, rfl, by omega, by omega, row_newY w _ _, (Below.refl _ w).alloc (Nat.le_refl _) _, rfl⟩



theorem lines_y (s : ByteArray) (w : World) (hs : s.size < 4294967281) :
    Calls Tryd.prog 17 #[.string s] w fun e w' => ∃ a c, e = .returned (.slice a (linesB s).length c) ∧ RowY w.heap.size w' a (linesB s) ∧ Below w.heap.size w w' := by
  have S := split_y s 10 w hs
  have hlen := cutB_len 10 s
  have hc := count_le s 10
  have HE : Hd (linesB s = if gt (cutB 10 s) ((cutB 10 s).length - 1) = ⟨#[]⟩ then (cutB 10 s).dropLast else cutB 10 s) := ⟨rfl⟩
  generalize linesB s = R at *
  generalize cutB 10 s = L at *
  obtain ⟨m, hm⟩ : ∃ m, L.length = m + 1 := ⟨_, hlen⟩
  rw [hm] at S
  have HM : Hd (L.length = m + 1) := ⟨hm⟩
  have hm2 : m ≤ 4294967281 := by omega
  clear hlen hm hc
  go_enter Tryd.func17, Tryd.ntmps17
  go_wp2_with fail
  go_at_call 27
  refine S.mono ?_
  rintro e w1 ⟨rfl, hr, hb⟩
  obtain ⟨b, off, e, hbl, hcs⟩ := hr.row (by rw [HM.out]; omega)
  obtain ⟨rfl, rfl⟩ : w.heap.size = b ∧ 0 = off := by cases e; exact ⟨rfl, rfl⟩
  clear e
  have hcell := hcs m (by rw [HM.out]; omega)
  rw [Nat.zero_add] at hcell
  have hrow : Hd (RowY w.heap.size w1 (some ⟨w.heap.size, 0, none⟩) L) := ⟨hr⟩
  clear hr hcs S
  by_cases hz : gt L m = ⟨#[]⟩
  · rw [hz] at hcell
    have hR : R = L.dropLast := by rw [HE.out, if_pos (by rw [HM.out]; exact hz)]
    have hlen : R.length = m := by rw [hR, List.length_dropLast, HM.out]; rfl
    have hres : RowY w.heap.size w1 (some ⟨w.heap.size, 0, none⟩) R := by rw [hR]; exact hrow.out.dropLast
    have HRES : Hd (RowY w.heap.size w1 (some ⟨w.heap.size, 0, none⟩) R ∧ R.length = m) := ⟨hres, hlen⟩
    clear hres hlen hR hz HE hrow
    go_wp2
    go_ret
    refine ⟨some ⟨w.heap.size, 0, none⟩, m + 1, ?_, HRES.out.1, hb⟩
    rw [HRES.out.2]
    rfl
  · have ne := str_ne hz
    have hR : R = L := by rw [HE.out, if_neg (by rw [HM.out]; exact hz)]
    have HRES : Hd (RowY w.heap.size w1 (some ⟨w.heap.size, 0, none⟩) R ∧ R.length = m + 1) := ⟨by rw [hR]; exact hrow.out, by rw [hR]; exact HM.out⟩
    clear hR hz HE hrow
    generalize gt L m = x at *
    have ne' : x.toList.isEmpty = false := by
      cases h : x.toList with
      | nil => rw [h] at ne; simp at ne
      | cons _ _ => rfl
    go_wp2
    go_ret
    refine ⟨some ⟨w.heap.size, 0, none⟩, m + 1, ?_, HRES.out.1, hb⟩
    rw [HRES.out.2]
    rfl


theorem words_y (s : ByteArray) (w : World) (hs : s.size ≤ 4294967296) :
    Calls Tryd.prog 18 #[.string s] w fun e w' => ∃ a, e = .returned (.slice a (wordsB s).length (wordsB s).length) ∧ RowY w.heap.size w' a (wordsB s) ∧ Below w.heap.size w w' := by
  have F := Any.strings_FieldsFunc_runes Tryd.laysFields 29 #[] (enters_of Tryd.func29 (by kernel_rfl) rfl) isBlank s w hs (blank_ok w) (by kernel_rfl) (by kernel_rfl)
  rw [fields_words] at F
  have F' : Calls Tryd.prog 28 #[.string s, .func (.func 29) #[] #[]] w fun e w' => ∃ A, e = .returned (.slice (some ⟨A, 0, none⟩) (wordsB s).length (wordsB s).length) ∧ RowY w.heap.size w' (some ⟨A, 0, none⟩) (wordsB s) ∧ Below w.heap.size w w' :=
    Calls.mono F fun e w' ⟨A, he, _, ho, hb⟩ => ⟨A, he, row_ownedY ho, hb⟩
  clear F
  generalize wordsB s = L at *
  go_enter Tryd.func18, Tryd.ntmps18
  go_wp2_with (go_at_call 28; refine F'.mono ?_; rintro e w' ⟨A, rfl, hr, hb⟩)
  go_ret
  exact ⟨_, rfl, hr, hb⟩



theorem list_y (s : ByteArray) (w : World) (hs : s.size < 4294967281) :
    Calls Tryd.prog 67 #[.string s] w fun e w' => ∃ a c, e = .returned (.tuple #[.slice a (listOf s).length c, .bool (listOk s)]) ∧ RowY w.heap.size w' a (listOf s) ∧ (listOf s).length ≤ c ∧ Below w.heap.size w w' := by
  by_cases h1 : s = mk [45]
  · have e1 : listOf s = [] := by unfold listOf; rw [if_pos h1]
    have e2 : listOk s = true := by unfold listOk; rw [if_pos h1]
    rw [e1, e2]
    subst h1
    show Calls Tryd.prog 67 #[.string ⟨#[45]⟩] w _
    go_enter Tryd.func67, Tryd.ntmps67
    go_wp2_with fail
    go_ret2
    exact ⟨none, 0, rfl, RowY.nil _ _ _, Nat.le_refl _, Below.refl _ _⟩
  by_cases h2 : s = mk [42]
  · have e1 : listOf s = [mk [42]] := by unfold listOf; rw [if_neg h1, if_pos h2]
    have e2 : listOk s = true := by unfold listOk; rw [if_neg h1, if_pos h2]
    rw [e1, e2]
    subst h2
    show Calls Tryd.prog 67 #[.string ⟨#[42]⟩] w _
    go_enter Tryd.func67, Tryd.ntmps67
    go_wp2_with fail
    go_ret2
    refine ⟨_, _, rfl, fun _ => ⟨w.heap.size, 0, _, (0, 0), rfl, ⟨Nat.le_refl _, rfl⟩, Blk.new w 9 _, fun k hk => ?_⟩, Nat.le_refl _, (Below.refl _ w).alloc (Nat.le_refl _) _⟩
    obtain rfl : k = 0 := by simp at hk; omega
    simp [gt, mk]
  have n1 : (s.toList == [45]) = false := by have := str_ne h1; rw [ByteArray.toList_eq (mk [45]), mk_list] at this; exact this
  have n2 : (s.toList == [42]) = false := by have := str_ne h2; rw [ByteArray.toList_eq (mk [42]), mk_list] at this; exact this
  obtain ⟨g1, g2⟩ := good_split s
  have S := splitN_y s 44 w hs
  have sh := short_split 44 (min 9 (s.size + 1) - 1) s hs
  have r2 : listOk s = good (cutB 44 s) := by unfold listOk; rw [if_neg h1, if_neg h2]
  have r1 : listOf s = if good (cutB 44 s) then cutB 44 s else [] := by unfold listOf; rw [if_neg h1, if_neg h2]
  rw [← g1] at r1 r2 g2
  have R1 : Hd (_ = _) := ⟨r1⟩
  have R2 : Hd (_ = _) := ⟨r2⟩
  have G2 : Hd (good (splitB ⟨#[44]⟩ 0 (min 9 (s.size + 1) - 1) s) = true → splitB ⟨#[44]⟩ 0 (min 9 (s.size + 1) - 1) s = cutB 44 s) := ⟨g2⟩
  clear r1 r2 g1 g2 h1 h2
  generalize listOf s = R at *
  generalize listOk s = ok at *
  generalize cutB 44 s = C at *
  generalize splitB ⟨#[44]⟩ 0 (min 9 (s.size + 1) - 1) s = L at *
  go_enter Tryd.func67, Tryd.ntmps67
  go_wp2_with fail
  go_at_call 76
  refine S.mono ?_
  rintro e w1 ⟨L', N, rfl, hN1, hN2, hr, hb, hL⟩
  subst hL
  have U := unlike_ok (some ⟨w.heap.size, 0, none⟩) N L' w1 hr.row sh hN1 (by omega)
  have hr' : Hd (RowY w.heap.size w1 (some ⟨w.heap.size, 0, none⟩) L') := ⟨hr⟩
  clear hr sh S
  cases hg : good L' with
  | false =>
    have o1 : R = [] := by rw [R1.out, if_neg (by rw [hg]; decide)]
    have o2 : ok = false := by rw [R2.out, hg]
    subst o1 o2
    rw [hg] at U
    clear R1 R2 G2 hg
    go_wp2_with (go_at_call 77; refine U.mono ?_; rintro e w' ⟨rfl, hw⟩; obtain rfl := hw.symm)
    go_ret2
    exact ⟨none, 0, rfl, RowY.nil _ _ _, Nat.le_refl _, hb⟩
  | true =>
    have o1 : R = L' := by rw [R1.out, if_pos hg, G2.out hg]
    have o2 : ok = true := by rw [R2.out, hg]
    subst o1 o2
    rw [hg] at U
    clear R1 R2 G2 hg
    generalize hlen : R.length = m at *
    go_wp2_with (go_at_call 77; refine U.mono ?_; rintro e w' ⟨rfl, hw⟩; obtain rfl := hw.symm)
    go_ret2
    exact ⟨some ⟨w.heap.size, 0, none⟩, N, by rw [hlen]; rfl, hr'.out, by rw [hlen]; exact hN1, hb⟩


theorem list_len (s : ByteArray) : (listOf s).length ≤ 8 := by
  unfold listOf
  split
  · simp
  · split
    · simp
    · split
      · rename_i h; exact (good_iff.1 h).1
      · simp

end Go.Proofs.YtaodckojinbdfaaDoor
