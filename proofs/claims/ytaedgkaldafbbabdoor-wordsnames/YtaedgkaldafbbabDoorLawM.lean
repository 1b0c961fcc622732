/-
  What 'WordsNames' of the statements answers: true, for every text. No condition.
-/
import Derived.Test.YtaedgkaldafbbabDoorAwake
namespace Go.Proofs.YtaedgkaldafbbabDoor
open Go.RowKit Go.Lib

def plainB (n : Int) : Bool := n != 32 && n != 10
def plainTo (s : ByteArray) (k : Nat) : Bool := (s.data.toList.take k).all fun b => plainB (b.toNat : Int)
theorem plainTo_zero (s : ByteArray) : plainTo s 0 = true := by unfold plainTo; rw [List.take_zero]; rfl
theorem plainTo_succ (s : ByteArray) (k : Nat) (h : k < s.size) : plainTo s (k + 1) = (plainTo s k && plainB (s[k].toNat : Int)) := by
  unfold plainTo
  rw [List.take_add_one, byte_at s k h, Option.toList_some, List.all_append]
  simp
theorem plainTo_all (s : ByteArray) : plainTo s s.size = allB plainB s := by
  unfold plainTo allB
  rw [List.take_of_length_le (by rw [Array.length_toList]; exact Nat.le_refl _)]

theorem name_word {s : ByteArray} (h : isName s = true) : isWord s = true := by
  unfold isName at h
  simp only [Bool.and_eq_true, decide_eq_true_eq] at h
  obtain ⟨h1, h2, h3⟩ := h
  by_cases h0 : 0 < s.size
  · rw [dif_pos h0] at h3
    rw [isWord_eq]
    have d1 : decide (s.size ≤ 64) = true := decide_eq_true (by omega)
    have d2 : allB isWordB s = true := (allB_iff _ _).2 fun k hk => by
      have := (allB_iff _ _).1 h2 k hk
      revert this
      unfold isNameB isWordB
      cases isSmall (s[k].toNat : Int) <;> cases isDigit (s[k].toNat : Int) <;> cases ((s[k].toNat : Int) == 45) <;> simp
    have d3 : decide (s.size = 0) = false := decide_eq_false (by omega)
    have d4 : (s.data.toList == [45]) = false := by
      cases hb : (s.data.toList == [45]) with
      | false => rfl
      | true =>
        have e := eq_of_beq hb
        have hy := byte_at s 0 h0
        rw [e] at hy
        have hb0 : s[0] = 45 := (Option.some.inj hy).symm
        rw [hb0] at h3
        revert h3
        decide
    rw [d1, d2, d3, d4]
    rfl
  · rw [dif_neg h0] at h3
    cases h3

theorem word_parts {s : ByteArray} (h : isWord s = true) : (∀ b ∈ s.data.toList, isWordB (b.toNat : Int) = true) ∧ s ≠ mk [45] ∧ s ≠ mk [42] := by
  rw [isWord_eq] at h
  simp only [Bool.and_eq_true, Bool.not_eq_true'] at h
  obtain ⟨h1, h2, h3, h4⟩ := h
  have hall : ∀ b ∈ s.data.toList, isWordB (b.toNat : Int) = true := by
    unfold allB at h2
    exact fun b hb => List.all_eq_true.1 h2 b hb
  refine ⟨hall, fun e => ?_, fun e => ?_⟩
  · rw [e, mk_list] at h4
    exact absurd h4 (by decide)
  · have := hall 42 (by rw [e, mk_list]; simp)
    revert this
    decide
theorem word_plain {s : ByteArray} (h : isWord s = true) : allB plainB s = true := (allB_iff _ _).2 fun k hk => by
  have hw := (word_parts h).1 s[k] (List.mem_of_getElem? (byte_at s k hk))
  have hn : (s[k].toNat : Int) ≠ 32 ∧ (s[k].toNat : Int) ≠ 10 := by
    constructor <;> intro e <;> rw [e] at hw <;> revert hw <;> decide
  unfold plainB
  simp [bne, hn.1, hn.2]

theorem word_list {s : ByteArray} (h : isWord s = true) : listOk s = true ∧ listOf s = [s] := by
  obtain ⟨h1, h2, h3⟩ := word_parts h
  have hcut : cutB 44 s = [s] := by
    unfold cutB
    rw [cutL_plain 44 _ (fun hm => by
      have := h1 44 hm
      revert this
      decide)]
    show [mk s.data.toList] = _
    rw [mk_of]
  have hg : good [s] = true := good_yes ⟨by simp, fun i hi => by
    obtain rfl : i = 0 := by simp at hi; omega
    exact ⟨h, fun j hj => absurd hj (Nat.not_lt_zero _)⟩⟩
  unfold listOk listOf
  rw [if_neg h2, if_neg h3, if_neg h2, if_neg h3, hcut, hg]
  exact ⟨rfl, rfl⟩

theorem in_piece (c b : UInt8) (hb : b ≠ c) : ∀ l : List UInt8, b ∈ l → ∃ p ∈ cutL c l, b ∈ p
  | [], h => by cases h
  | x :: l, h => by
    have hne := cutL_ne c l
    show ∃ p ∈ (if x = c then [] :: cutL c l else (x :: (cutL c l).headD []) :: (cutL c l).tail), b ∈ p
    by_cases hx : x = c
    · rw [if_pos hx]
      rcases List.mem_cons.1 h with e | h
      · exact absurd (e.trans hx) hb
      · obtain ⟨p, hp, hbp⟩ := in_piece c b hb l h
        exact ⟨p, List.mem_cons_of_mem _ hp, hbp⟩
    · rw [if_neg hx]
      rcases List.mem_cons.1 h with e | h
      · exact ⟨_, List.mem_cons_self .., by rw [e]; exact List.mem_cons_self ..⟩
      · obtain ⟨p, hp, hbp⟩ := in_piece c b hb l h
        cases hc : cutL c l with
        | nil => exact absurd hc hne
        | cons y t =>
          rw [hc] at hp
          rcases List.mem_cons.1 hp with e | hp
          · exact ⟨_, List.mem_cons_self .., List.mem_cons_of_mem _ (by rw [← e]; exact hbp)⟩
          · exact ⟨p, List.mem_cons_of_mem _ hp, hbp⟩

theorem list_plain {s : ByteArray} (h : listOk s = true) : allB plainB s = true := by
  unfold listOk at h
  by_cases h1 : s = mk [45]
  · rw [h1]; decide
  rw [if_neg h1] at h
  by_cases h2 : s = mk [42]
  · rw [h2]; decide
  rw [if_neg h2] at h
  have hG := good_iff.1 h
  have bad : ∀ b : UInt8, b ≠ 44 → isWordB (b.toNat : Int) = false → b ∉ s.data.toList := fun b hb hw hm => by
    obtain ⟨p, hp, hbp⟩ := in_piece 44 b hb _ hm
    have hmem : mk p ∈ cutB 44 s := List.mem_map.2 ⟨p, hp, rfl⟩
    obtain ⟨k, hk, e⟩ := List.getElem_of_mem hmem
    have hwd := (hG.2 k hk).1
    rw [gt_eq hk, e] at hwd
    have := (word_parts hwd).1 b (by rw [mk_list]; exact hbp)
    rw [hw] at this
    cases this
  have b1 := bad 32 (by decide) (by decide)
  have b2 := bad 10 (by decide) (by decide)
  refine (allB_iff _ _).2 fun k hk => ?_
  have hm := List.mem_of_getElem? (byte_at s k hk)
  have n1 : (s[k].toNat : Int) ≠ 32 := fun e => b1 (by
    have : s[k] = 32 := UInt8.toNat_inj.1 (by have h32 : (32 : UInt8).toNat = 32 := rfl; omega)
    rw [← this]; exact hm)
  have n2 : (s[k].toNat : Int) ≠ 10 := fun e => b2 (by
    have : s[k] = 10 := UInt8.toNat_inj.1 (by have h10 : (10 : UInt8).toNat = 10 := rfl; omega)
    rw [← this]; exact hm)
  unfold plainB
  simp [bne, n1, n2]

set_option maxRecDepth 20000 in
theorem names_all (s : ByteArray) (w : World) (hs : s.size ≤ 9223372036854775807) :
    Calls Tryd.prog 4 #[.string s] w fun e w' => e = .returned (.bool true) ∧ Below w.heap.size w w' := by
  by_cases hlong : 16384 < s.size
  · go_enter Tryd.func4, Tryd.ntmps4
    go_wp2_with (go_at_call 5; refine (awake_any _).mono ?_; rintro e w1 ⟨rfl, hb1⟩)
    go_ret
    exact ⟨rfl, hb1⟩
  have CL := fun w => list_ok s w (by omega)
  have CN := fun w => name_ok s hs w
  have CW := fun w => word_ok s hs w
  have HP : Hd (plainTo s s.size = allB plainB s) := ⟨plainTo_all s⟩
  have HLP : Hd (listOk s = true → allB plainB s = true) := ⟨list_plain⟩
  cases hw : isWord s with
  | true =>
    obtain ⟨o1, o2⟩ := word_list hw
    have hp := word_plain hw
    rw [o1, o2] at CL
    rw [hw] at CW
    have HPT : Hd (plainTo s s.size = true) := ⟨by rw [HP.out, hp]⟩
    clear hw o1 o2 hp HP HLP
    generalize isName s = nm at *
    cases nm
    all_goals
      go_enter Tryd.func4, Tryd.ntmps4
      go_wp2_with (go_at_call 5; refine (awake_any _).mono ?_; rintro e w1 ⟨rfl, hb1⟩)
      go_at_call 7
      refine (CL _).mono ?_
      rintro e w2 ⟨a2, c2, rfl, r2, _, hb2⟩
      have B2 : Hd (Below w.heap.size w w2) := ⟨hb1.trans (hb2.mono hb1.size)⟩
      clear hb1 hb2 CL
      obtain ⟨b, off, rfl, hbl, hcs⟩ := r2 (by simp)
      have hcell := hcs 0 (by simp)
      rw [Nat.add_zero, show gt [s] 0 = s from rfl] at hcell
      clear hcs
      go_wp2_with (first
        | (go_at_call 8; refine (CN _).mono ?_; rintro e w' ⟨rfl, hw⟩; obtain rfl := hw.symm)
        | (go_at_call 9; refine (CW _).mono ?_; rintro e w' ⟨rfl, hw⟩; obtain rfl := hw.symm))
      go_loop [5, 6] (fun x i => ∃ k : Nat, k ≤ s.size ∧ i = .int .i64 k ∧ x = .bool (plainTo s k)) (fun _ i => s.size - (intOf i).toNat)
      case atStart => exact ⟨0, Nat.zero_le _, rfl, by rw [plainTo_zero]⟩
      case round =>
        obtain ⟨k, hk, rfl, rfl⟩ := hrel
        by_cases hlt : k < s.size
        · have hS : Hd (plainTo s (k + 1) = (plainTo s k && plainB (s[k].toNat : Int))) := ⟨plainTo_succ s k hlt⟩
          cases hp : plainTo s k with
          | false =>
            have e : Hd (plainTo s (k + 1) = false) := ⟨by rw [hS.out, hp]; rfl⟩
            clear hS hp
            go_wp2_with fail
            go_round
            case rel => exact ⟨k + 1, by omega, by go_num, by rw [e.out]⟩
            case measure => simp [intOf]; omega
          | true =>
            cases h1 : ((s[k].toNat : Int) != 32) with
            | false =>
              have e : Hd (plainTo s (k + 1) = false) := ⟨by rw [hS.out, hp]; unfold plainB; rw [h1]; rfl⟩
              clear hS hp
              go_wp2_with fail
              go_round
              case rel => exact ⟨k + 1, by omega, by go_num, by rw [e.out]⟩
              case measure => simp [intOf]; omega
            | true =>
              cases h2 : ((s[k].toNat : Int) != 10) with
              | false =>
                have e : Hd (plainTo s (k + 1) = false) := ⟨by rw [hS.out, hp]; unfold plainB; rw [h1, h2]; rfl⟩
                clear hS hp
                go_wp2_with fail
                go_round
                case rel => exact ⟨k + 1, by omega, by go_num, by rw [e.out]⟩
                case measure => simp [intOf]; omega
              | true =>
                have e : Hd (plainTo s (k + 1) = true) := ⟨by rw [hS.out, hp]; unfold plainB; rw [h1, h2]; rfl⟩
                clear hS hp
                go_wp2_with fail
                go_round
                case rel => exact ⟨k + 1, by omega, by go_num, by rw [e.out]⟩
                case measure => simp [intOf]; omega
        · obtain rfl : k = s.size := by omega
          rw [HPT.out]
          clear HPT
          go_wp2_with fail
          go_ret
          exact ⟨rfl, B2.out⟩
  | false =>
    have hn : isName s = false := by
      cases h : isName s with
      | false => rfl
      | true => rw [name_word h] at hw; cases hw
    rw [hn] at CN
    rw [hw] at CW
    have HF : Hd (plainTo s s.size = false → listOk s = false) := ⟨fun h => by
      cases hl : listOk s with
      | false => rfl
      | true => rw [HP.out, HLP.out hl] at h; cases h⟩
    clear hw hn HP HLP
    generalize listOk s = ok at *
    generalize listOf s = M at *
    go_enter Tryd.func4, Tryd.ntmps4
    go_wp2_with (go_at_call 5; refine (awake_any _).mono ?_; rintro e w1 ⟨rfl, hb1⟩)
    go_at_call 7
    refine (CL _).mono ?_
    rintro e w2 ⟨a2, c2, rfl, r2, _, hb2⟩
    have B2 : Hd (Below w.heap.size w w2) := ⟨hb1.trans (hb2.mono hb1.size)⟩
    clear hb1 hb2 CL
    clear r2
    generalize M.length = mm at *
    go_wp2_with (first
      | (go_at_call 8; refine (CN _).mono ?_; rintro e w' ⟨rfl, hw⟩; obtain rfl := hw.symm)
      | (go_at_call 9; refine (CW _).mono ?_; rintro e w' ⟨rfl, hw⟩; obtain rfl := hw.symm))
    go_loop [5, 6] (fun x i => ∃ k : Nat, k ≤ s.size ∧ i = .int .i64 k ∧ x = .bool (plainTo s k)) (fun _ i => s.size - (intOf i).toNat)
    case atStart => exact ⟨0, Nat.zero_le _, rfl, by rw [plainTo_zero]⟩
    case round =>
      obtain ⟨k, hk, rfl, rfl⟩ := hrel
      by_cases hlt : k < s.size
      · have hS : Hd (plainTo s (k + 1) = (plainTo s k && plainB (s[k].toNat : Int))) := ⟨plainTo_succ s k hlt⟩
        cases hp : plainTo s k with
        | false =>
          have e : Hd (plainTo s (k + 1) = false) := ⟨by rw [hS.out, hp]; rfl⟩
          clear hS hp
          go_wp2_with fail
          go_round
          case rel => exact ⟨k + 1, by omega, by go_num, by rw [e.out]⟩
          case measure => simp [intOf]; omega
        | true =>
          cases h1 : ((s[k].toNat : Int) != 32) with
          | false =>
            have e : Hd (plainTo s (k + 1) = false) := ⟨by rw [hS.out, hp]; unfold plainB; rw [h1]; rfl⟩
            clear hS hp
            go_wp2_with fail
            go_round
            case rel => exact ⟨k + 1, by omega, by go_num, by rw [e.out]⟩
            case measure => simp [intOf]; omega
          | true =>
            cases h2 : ((s[k].toNat : Int) != 10) with
            | false =>
              have e : Hd (plainTo s (k + 1) = false) := ⟨by rw [hS.out, hp]; unfold plainB; rw [h1, h2]; rfl⟩
              clear hS hp
              go_wp2_with fail
              go_round
              case rel => exact ⟨k + 1, by omega, by go_num, by rw [e.out]⟩
              case measure => simp [intOf]; omega
            | true =>
              have e : Hd (plainTo s (k + 1) = true) := ⟨by rw [hS.out, hp]; unfold plainB; rw [h1, h2]; rfl⟩
              clear hS hp
              go_wp2_with fail
              go_round
              case rel => exact ⟨k + 1, by omega, by go_num, by rw [e.out]⟩
              case measure => simp [intOf]; omega
      · obtain rfl : k = s.size := by omega
        cases hp : plainTo s s.size with
        | true =>
          clear HF
          go_wp2_with fail
          go_ret
          exact ⟨rfl, B2.out⟩
        | false =>
          obtain rfl := HF.out hp
          clear HF
          go_wp2_with (first
            | (go_at_call 8; refine (CN _).mono ?_; rintro e w' ⟨rfl, hw⟩; obtain rfl := hw.symm)
            | (go_at_call 9; refine (CW _).mono ?_; rintro e w' ⟨rfl, hw⟩; obtain rfl := hw.symm))
          go_ret
          exact ⟨rfl, B2.out⟩

end Go.Proofs.YtaedgkaldafbbabDoor
