/-
  The pieces of a text between bytes of one kind. No condition.
-/
import Derived.Test.YtlkoaldekmdcoaaGreatDoorWalkA
namespace Go.Proofs.YtlkoaldekmdcoaaGreatDoor

def cutL (c : UInt8) : List UInt8 → List (List UInt8)
  | [] => [[]]
  | b :: l => if b = c then [] :: cutL c l else (b :: (cutL c l).headD []) :: (cutL c l).tail

theorem cutL_ne (c : UInt8) : ∀ l, cutL c l ≠ []
  | [] => by simp [cutL]
  | b :: l => by unfold cutL; split <;> simp
theorem cutL_plain (c : UInt8) : ∀ l, c ∉ l → cutL c l = [l]
  | [], _ => rfl
  | b :: l, h => by
    have h1 : ¬ b = c := fun e => h (by rw [e]; exact List.mem_cons_self ..)
    have h2 : c ∉ l := fun e => h (List.mem_cons_of_mem _ e)
    unfold cutL
    rw [if_neg h1, cutL_plain c l h2]
    rfl
theorem cutL_at (c : UInt8) : ∀ (p r : List UInt8), c ∉ p → cutL c (p ++ c :: r) = p :: cutL c r
  | [], r, _ => by rw [List.nil_append, cutL, if_pos rfl]
  | b :: p, r, h => by
    have h1 : ¬ b = c := fun e => h (by rw [e]; exact List.mem_cons_self ..)
    have h2 : c ∉ p := fun e => h (List.mem_cons_of_mem _ e)
    rw [List.cons_append, cutL, if_neg h1, cutL_at c p r h2]
    rfl
theorem cutL_length (c : UInt8) : ∀ l, (cutL c l).length = l.count c + 1
  | [] => rfl
  | b :: l => by
    have ih := cutL_length c l
    unfold cutL
    by_cases h : b = c
    · subst h
      rw [if_pos rfl, List.length_cons, ih, List.count_cons_self]
    · rw [if_neg h, List.length_cons, List.length_tail, ih, List.count_cons_of_ne h]
      rfl

def mk (l : List UInt8) : ByteArray := ⟨l.toArray⟩
theorem mk_list (l : List UInt8) : (mk l).data.toList = l := by simp [mk]
theorem mk_of (s : ByteArray) : mk s.data.toList = s := by unfold mk; simp
theorem mk_inj {a b : List UInt8} (h : mk a = mk b) : a = b := by rw [← mk_list a, h, mk_list]
theorem list_inj {a b : ByteArray} (h : a.data.toList = b.data.toList) : a = b := by rw [← mk_of a, h, mk_of]

def cutB (c : UInt8) (s : ByteArray) : List ByteArray := (cutL c s.data.toList).map mk
theorem cutB_len (c : UInt8) (s : ByteArray) : (cutB c s).length = s.data.toList.count c + 1 := by unfold cutB; rw [List.length_map, cutL_length]

def neL (l : List UInt8) : Bool := !l.isEmpty
def wordsL (l : List UInt8) : List (List UInt8) := (cutL 32 l).filter neL
def wordsB (s : ByteArray) : List ByteArray := (wordsL s.data.toList).map mk

theorem wordsL_blank (l : List UInt8) : wordsL (32 :: l) = wordsL l := by
  unfold wordsL
  rw [cutL, if_pos rfl, List.filter_cons]
  rfl
theorem wordsL_at (p r : List UInt8) (h : (32 : UInt8) ∉ p) (hp : p ≠ []) : wordsL (p ++ 32 :: r) = p :: wordsL r := by
  unfold wordsL
  rw [cutL_at 32 p r h, List.filter_cons, if_pos (by unfold neL; cases p with | nil => exact absurd rfl hp | cons _ _ => rfl)]
theorem wordsL_end (p : List UInt8) (h : (32 : UInt8) ∉ p) (hp : p ≠ []) : wordsL p = [p] := by
  unfold wordsL
  rw [cutL_plain 32 p h, List.filter_cons, if_pos (by unfold neL; cases p with | nil => exact absurd rfl hp | cons _ _ => rfl)]
  rfl

def isBlank (r : Nat) : Bool := r == 32

theorem size_list (s : ByteArray) : s.data.toList.length = s.size := Array.length_toList

theorem no_blank {l : List UInt8} {a b : Nat} (h : ∀ j, a ≤ j → j < b → l[j]? ≠ some 32) : (32 : UInt8) ∉ (l.drop a).take (b - a) := fun hm => by
  obtain ⟨k, hk, e⟩ := List.getElem_of_mem hm
  rw [List.length_take, List.length_drop] at hk
  rw [List.getElem_take, List.getElem_drop] at e
  exact h (a + k) (by omega) (by omega) (by rw [List.getElem?_eq_getElem (by omega), e])

end Go.Proofs.YtlkoaldekmdcoaaGreatDoor
