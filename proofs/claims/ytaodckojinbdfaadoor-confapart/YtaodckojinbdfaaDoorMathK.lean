/-
  What a text tells, in a form that can be reckoned out; that lines may be cut off behind.
-/
import Derived.Test.YtaodckojinbdfaaDoorAid
import Derived.Test.YtaodckojinbdfaaDoorParse
namespace Go.Proofs.YtaodckojinbdfaaDoor

def isWord2 (s : ByteArray) : Bool := decide (s.size ≤ 64) && (allB isWordB s && (!decide (s.size = 0) && !(s.data.toList == [45])))
def good2 (L : List ByteArray) : Bool := decide (L.length ≤ 8) && (List.range L.length).all fun i => isWord2 (gt L i) && (List.range i).all fun j => decide (gt L j ≠ gt L i)
theorem good_eq (L : List ByteArray) : good L = good2 L := by
  unfold good good2
  simp only [isWord_eq, isWord2]
def listOk2 (s : ByteArray) : Bool := if s = mk [45] then true else if s = mk [42] then true else good2 (cutB 44 s)
def listOf2 (s : ByteArray) : List ByteArray := if s = mk [45] then [] else if s = mk [42] then [mk [42]] else if good2 (cutB 44 s) then cutB 44 s else []
theorem listOk_eq (s : ByteArray) : listOk s = listOk2 s := by unfold listOk listOk2; rw [good_eq]
theorem listOf_eq (s : ByteArray) : listOf s = listOf2 s := by unfold listOf listOf2; rw [good_eq]
def ruleW2 (C : Cf) (ws : List ByteArray) : Int :=
  mu (mu (mu (mu (mu (ifE (((ws.length : Int) == 5) && decide (0 < (C.schemas.length : Int))) 2) (ifE (listOk2 (gt ws 0)) 2)) (ifE (listOk2 (gt ws 1)) 2)) (ifE (listOk2 (gt ws 2)) 2)) (ifE (listOk2 (gt ws 3)) 2)) (ifE (listOk2 (gt ws 4)) 2)
def ruleOf2 (ws : List ByteArray) : Rl := ⟨listOf2 (gt ws 0), listOf2 (gt ws 1), listOf2 (gt ws 2), listOf2 (gt ws 3), listOf2 (gt ws 4)⟩
def tellE2 (C : Cf) (s : ByteArray) (ws : List ByteArray) : Int := if s = tRule then mu (ruleW2 C ws) (ifE (decide (((lastRules C).length : Int) < 8)) 3) else tellE C s ws
def tellC2 (C : Cf) (s : ByteArray) (ws : List ByteArray) : Cf := if s = tRule then ⟨C.total, C.period, C.perSeat, C.most, C.levels, addRule (ruleOf2 ws) C.schemas⟩ else tellC C s ws
def lineE2 (C : Cf) (ws : List ByteArray) : Int := if silent ws then 0 else tellE2 C (gt ws 0) ws.tail
def lineC2 (C : Cf) (ws : List ByteArray) : Cf := if silent ws then C else tellC2 C (gt ws 0) ws.tail
theorem lineE_eq (C : Cf) (ws : List ByteArray) : lineE C ws = lineE2 C ws := by
  unfold lineE lineE2 tellE2
  by_cases h : gt ws 0 = tRule
  · rw [if_pos h, h]
    have e : tellE C tRule ws.tail = ruleE C ws.tail := by
      unfold tellE
      rw [if_neg (show ¬ tRule = tTotal by decide), if_neg (show ¬ tRule = tPeriod by decide), if_neg (show ¬ tRule = tSeats by decide), if_neg (show ¬ tRule = tLevel by decide), if_neg (show ¬ tRule = tSchema by decide), if_pos rfl]
    rw [e]
    unfold ruleE ruleW ruleW2
    simp only [listOk_eq]
  · rw [if_neg h]
theorem lineC_eq (C : Cf) (ws : List ByteArray) : lineC C ws = lineC2 C ws := by
  unfold lineC lineC2 tellC2
  by_cases h : gt ws 0 = tRule
  · rw [if_pos h, h]
    have e : tellC C tRule ws.tail = ⟨C.total, C.period, C.perSeat, C.most, C.levels, addRule (ruleOf ws.tail) C.schemas⟩ := by
      unfold tellC
      rw [if_neg (show ¬ tRule = tTotal by decide), if_neg (show ¬ tRule = tPeriod by decide), if_neg (show ¬ tRule = tSeats by decide), if_neg (show ¬ tRule = tLevel by decide), if_neg (show ¬ tRule = tSchema by decide)]
    rw [e]
    unfold ruleOf ruleOf2
    simp only [listOf_eq]
  · rw [if_neg h]
def goE2 (C : Cf) : List ByteArray → Int
  | [] => 0
  | l :: r => if lineE2 C (wordsB l) = 0 then goE2 (lineC2 C (wordsB l)) r else lineE2 C (wordsB l)
def goL2 (C : Cf) (i : Nat) : List ByteArray → Nat
  | [] => 0
  | l :: r => if lineE2 C (wordsB l) = 0 then goL2 (lineC2 C (wordsB l)) (i + 1) r else i + 1
def goC2 (C : Cf) : List ByteArray → Cf
  | [] => C
  | l :: r => if lineE2 C (wordsB l) = 0 then goC2 (lineC2 C (wordsB l)) r else cf0
theorem goE_eq : ∀ (L : List ByteArray) (C : Cf), goE C L = goE2 C L
  | [], _ => rfl
  | l :: r, C => by
    show (if _ then _ else _) = (if _ then _ else _)
    rw [lineE_eq, lineC_eq, goE_eq r]
theorem goL_eq : ∀ (L : List ByteArray) (C : Cf) (i : Nat), goL C i L = goL2 C i L
  | [], _, _ => rfl
  | l :: r, C, i => by
    show (if _ then _ else _) = (if _ then _ else _)
    rw [lineE_eq, lineC_eq, goL_eq r]
theorem goC_eq : ∀ (L : List ByteArray) (C : Cf), goC C L = goC2 C L
  | [], _ => rfl
  | l :: r, C => by
    show (if _ then _ else _) = (if _ then _ else _)
    rw [lineE_eq, lineC_eq, goC_eq r]
def parE2 (s : ByteArray) : Int := if 65536 < s.size then 3 else goE2 cf0 (linesB s)
def parL2 (s : ByteArray) : Nat := if 65536 < s.size then 0 else goL2 cf0 0 (linesB s)
def parC2 (s : ByteArray) : Cf := if 65536 < s.size then cf0 else goC2 cf0 (linesB s)
theorem parE_eq (s : ByteArray) : parE s = parE2 s := by unfold parE parE2; rw [goE_eq]
theorem parL_eq (s : ByteArray) : parL s = parL2 s := by unfold parL parL2; rw [goL_eq]
theorem parC_eq (s : ByteArray) : parC s = parC2 s := by unfold parC parC2; rw [goC_eq]

/-- The texts of 'awake'. -/
def awA : ByteArray := ⟨#[116, 111, 116, 97, 108, 32, 49, 48, 10, 108, 101, 118, 101, 108, 32, 97, 32, 53, 32, 48, 32, 97, 108, 108, 32, 114, 101, 106, 101, 99, 116, 10, 115, 99, 104, 101, 109, 97, 32, 115, 32, 97, 32, 55, 32, 117, 115, 101, 114, 10, 114, 117, 108, 101, 32, 42, 32, 45, 32, 103, 101, 116, 44, 108, 105, 115, 116, 32, 42, 32, 45]⟩
def awB : ByteArray := ⟨#[112, 101, 114, 105, 111, 100, 32, 51, 10, 116, 111, 116, 97, 108, 32, 48]⟩
def awCf : Cf := ⟨10, 0, 0, 0, [⟨mk [97], 2, 5, 0, -1, 0, 0, 0, 0, 0⟩], [⟨mk [115], mk [97], 7, 1, [⟨[mk [42]], [], [mk [103, 101, 116], mk [108, 105, 115, 116]], [mk [42]], []⟩]⟩]⟩
theorem awA_e : parE awA = 0 := by rw [parE_eq]; kernel_rfl
theorem awA_c : parC awA = awCf := by rw [parC_eq]; kernel_rfl
theorem awB_e : parE awB = 8 := by rw [parE_eq]; kernel_rfl

end Go.Proofs.YtaodckojinbdfaaDoor
