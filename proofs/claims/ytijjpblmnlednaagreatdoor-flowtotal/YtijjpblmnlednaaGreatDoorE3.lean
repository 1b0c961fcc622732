/-
  What a configuration's lines tell: the mathematics of 'conf.Parse'.
-/
import Derived.Test.YtijjpblmnlednaaGreatDoorE2
namespace Go.Proofs.YtijjpblmnlednaaGreatDoor
/-- The lines of a text. -/
def linesB (s : ByteArray) : List ByteArray := if gt (cutB 10 s) ((cutB 10 s).length - 1) = ⟨#[]⟩ then (cutB 10 s).dropLast else cutB 10 s
/-- What a text is as a list, and whether it is one. -/
def listOk (s : ByteArray) : Bool := if s = mk [45] then true else if s = mk [42] then true else good (cutB 44 s)
def listOf (s : ByteArray) : List ByteArray := if s = mk [45] then [] else if s = mk [42] then [mk [42]] else if good (cutB 44 s) then cutB 44 s else []

structure Lv where
  name : ByteArray
  kind : Int
  shares : Int
  lend : Int
  borrow : Int
  queues : Int
  hand : Int
  length : Int
  wait : Int
  guess : Int
structure Rl where
  users : List ByteArray
  groups : List ByteArray
  verbs : List ByteArray
  resources : List ByteArray
  spaces : List ByteArray
structure Sc where
  name : ByteArray
  level : ByteArray
  rank : Int
  way : Int
  rules : List Rl
structure Cf where
  total : Int
  period : Int
  perSeat : Int
  most : Int
  levels : List Lv
  schemas : List Sc

/-- A configuration of which nothing is told. -/
def cf0 : Cf := ⟨0, 0, 0, 0, [], []⟩

/-- The first error stays. -/
def mu (e x : Int) : Int := if e = 0 then x else e
/-- The error of what does not hold. -/
def ifE (b : Bool) (x : Int) : Int := if b then 0 else x

theorem mu_zero (x : Int) : mu 0 x = x := if_pos rfl
theorem mu_keep {e x : Int} (h : e ≠ 0) : mu e x = e := if_neg h
theorem ifE_yes (x : Int) : ifE true x = 0 := rfl
theorem ifE_no (x : Int) : ifE false x = x := rfl
theorem mu_yes (e x : Int) : mu e (ifE true x) = e := by unfold mu; split <;> simp_all [ifE]
theorem mu_eq_zero {e x : Int} : mu e x = 0 ↔ e = 0 ∧ x = 0 := by unfold mu; split <;> simp_all
theorem ifE_eq_zero {b : Bool} {x : Int} (h : x ≠ 0) : ifE b x = 0 ↔ b = true := by cases b <;> simp_all [ifE]

def tTotal : ByteArray := ⟨#[116, 111, 116, 97, 108]⟩
def tPeriod : ByteArray := ⟨#[112, 101, 114, 105, 111, 100]⟩
def tSeats : ByteArray := ⟨#[115, 101, 97, 116, 115]⟩
def tLevel : ByteArray := ⟨#[108, 101, 118, 101, 108]⟩
def tSchema : ByteArray := ⟨#[115, 99, 104, 101, 109, 97]⟩
def tRule : ByteArray := ⟨#[114, 117, 108, 101]⟩
def tExempt : ByteArray := ⟨#[101, 120, 101, 109, 112, 116]⟩
def tReject : ByteArray := ⟨#[114, 101, 106, 101, 99, 116]⟩
def tQueue : ByteArray := ⟨#[113, 117, 101, 117, 101]⟩
def tAll : ByteArray := ⟨#[97, 108, 108]⟩
def tNone : ByteArray := ⟨#[110, 111, 110, 101]⟩
def tUser : ByteArray := ⟨#[117, 115, 101, 114]⟩
def tSpace : ByteArray := ⟨#[115, 112, 97, 99, 101]⟩

/-- What a line tells, by the words behind its first one: an error, or 0 and the configuration. -/
def totalE (C : Cf) (ws : List ByteArray) : Int := mu (mu (ifE ((ws.length : Int) == 1) 2) (ifE (numIn (gt ws 0) 1 4096) 8)) (ifE (C.total == 0) 5)
def periodE (C : Cf) (ws : List ByteArray) : Int := mu (mu (ifE ((ws.length : Int) == 1) 2) (ifE (numIn (gt ws 0) 1 1000) 8)) (ifE (C.period == 0) 5)
def seatsE (C : Cf) (ws : List ByteArray) : Int := mu (mu (mu (ifE ((ws.length : Int) == 2) 2) (ifE (numIn (gt ws 0) 1 1048576) 8)) (ifE (numIn (gt ws 1) 1 16) 8)) (ifE (C.perSeat == 0) 5)

def kindW (ws : List ByteArray) : Int :=
  if ws.length = 2 ∧ gt ws 1 = tExempt then 1 else if ws.length = 5 ∧ gt ws 4 = tReject then 2 else if ws.length = 10 ∧ gt ws 4 = tQueue then 3 else 0
/-- What may be borrowed, and whether it is a number or 'all'. -/
def borrowOk (s : ByteArray) : Bool := if s = tAll then true else numIn s 0 1000
def borrowOf (s : ByteArray) : Int := if s = tAll then -1 else numOf s 0 1000
def numsE (ws : List ByteArray) (e : Int) : Int := mu (mu (mu e (ifE (numIn (gt ws 1) 0 10000) 8)) (ifE (numIn (gt ws 2) 0 100) 8)) (ifE (borrowOk (gt ws 3)) 8)
def queueE (ws : List ByteArray) (e : Int) : Int :=
  mu (mu (mu (mu (mu e (ifE (numIn (gt ws 5) 1 64) 8)) (ifE (numIn (gt ws 6) 1 8) 8)) (ifE (numIn (gt ws 7) 1 64) 8)) (ifE (numIn (gt ws 8) 1 1000) 8)) (ifE (numIn (gt ws 9) 1 1000) 8)
/-- The level that the words tell. -/
def levelOf (ws : List ByteArray) : Lv :=
  if kindW ws = 1 then ⟨gt ws 0, 1, 0, 0, 0, 0, 0, 0, 0, 0⟩
  else if kindW ws = 2 then ⟨gt ws 0, 2, numOf (gt ws 1) 0 10000, numOf (gt ws 2) 0 100, borrowOf (gt ws 3), 0, 0, 0, 0, 0⟩
  else ⟨gt ws 0, 3, numOf (gt ws 1) 0 10000, numOf (gt ws 2) 0 100, borrowOf (gt ws 3), numOf (gt ws 5) 1 64, numOf (gt ws 6) 1 8, numOf (gt ws 7) 1 64, numOf (gt ws 8) 1 1000, numOf (gt ws 9) 1 1000⟩
/-- The errors of its words. -/
def levelW (ws : List ByteArray) : Int :=
  if kindW ws = 0 then 2 else if kindW ws = 1 then ifE (isName (gt ws 0)) 4
  else if kindW ws = 2 then numsE ws (ifE (isName (gt ws 0)) 4) else queueE ws (numsE ws (ifE (isName (gt ws 0)) 4))
def hasLv (C : Cf) (s : ByteArray) : Bool := C.levels.any fun l => decide (l.name = s)
def hasSc (C : Cf) (s : ByteArray) : Bool := C.schemas.any fun l => decide (l.name = s)
def levelE (C : Cf) (ws : List ByteArray) : Int := mu (mu (levelW ws) (ifE (!hasLv C (gt ws 0)) 5)) (ifE (decide ((C.levels.length : Int) < 16)) 3)

def byOk (s : ByteArray) : Bool := decide (s = tNone) || (decide (s = tUser) || decide (s = tSpace))
def byOf (s : ByteArray) : Int := if s = tUser then 1 else if s = tSpace then 2 else 0
def schemaW (ws : List ByteArray) : Int :=
  mu (mu (mu (mu (ifE ((ws.length : Int) == 4) 2) (ifE (isName (gt ws 0)) 4)) (ifE (isName (gt ws 1)) 4)) (ifE (numIn (gt ws 2) 1 10000) 8)) (ifE (byOk (gt ws 3)) 2)
def schemaE (C : Cf) (ws : List ByteArray) : Int := mu (mu (schemaW ws) (ifE (!hasSc C (gt ws 0)) 5)) (ifE (decide ((C.schemas.length : Int) < 32)) 3)
def schemaOf (ws : List ByteArray) : Sc := ⟨gt ws 0, gt ws 1, numOf (gt ws 2) 1 10000, byOf (gt ws 3), []⟩

def ruleW (C : Cf) (ws : List ByteArray) : Int :=
  mu (mu (mu (mu (mu (ifE (((ws.length : Int) == 5) && decide (0 < (C.schemas.length : Int))) 2) (ifE (listOk (gt ws 0)) 2)) (ifE (listOk (gt ws 1)) 2)) (ifE (listOk (gt ws 2)) 2)) (ifE (listOk (gt ws 3)) 2)) (ifE (listOk (gt ws 4)) 2)
def ruleOf (ws : List ByteArray) : Rl := ⟨listOf (gt ws 0), listOf (gt ws 1), listOf (gt ws 2), listOf (gt ws 3), listOf (gt ws 4)⟩
/-- The rules of the schema that was told last. -/
def lastRules (C : Cf) : List Rl := match C.schemas.getLast? with
  | some s => s.rules
  | none => []
def withRule (r : Rl) (s : Sc) : Sc := ⟨s.name, s.level, s.rank, s.way, s.rules ++ [r]⟩
def addRule (r : Rl) : List Sc → List Sc
  | [] => []
  | [s] => [withRule r s]
  | s :: t :: l => s :: addRule r (t :: l)
def ruleE (C : Cf) (ws : List ByteArray) : Int := mu (ruleW C ws) (ifE (decide (((lastRules C).length : Int) < 8)) 3)

/-- One line, by its first word and the others. -/
def tellE (C : Cf) (s : ByteArray) (ws : List ByteArray) : Int :=
  if s = tTotal then totalE C ws else if s = tPeriod then periodE C ws else if s = tSeats then seatsE C ws else if s = tLevel then levelE C ws
  else if s = tSchema then schemaE C ws else if s = tRule then ruleE C ws else 2
def tellC (C : Cf) (s : ByteArray) (ws : List ByteArray) : Cf :=
  if s = tTotal then ⟨numOf (gt ws 0) 1 4096, C.period, C.perSeat, C.most, C.levels, C.schemas⟩
  else if s = tPeriod then ⟨C.total, numOf (gt ws 0) 1 1000, C.perSeat, C.most, C.levels, C.schemas⟩
  else if s = tSeats then ⟨C.total, C.period, numOf (gt ws 0) 1 1048576, numOf (gt ws 1) 1 16, C.levels, C.schemas⟩
  else if s = tLevel then ⟨C.total, C.period, C.perSeat, C.most, C.levels ++ [levelOf ws], C.schemas⟩
  else if s = tSchema then ⟨C.total, C.period, C.perSeat, C.most, C.levels, C.schemas ++ [schemaOf ws]⟩
  else ⟨C.total, C.period, C.perSeat, C.most, C.levels, addRule (ruleOf ws) C.schemas⟩

/-- A line without words, or whose first word begins with a number sign, says nothing. -/
def silent (ws : List ByteArray) : Bool := match ws with
  | [] => true
  | s :: _ => s.data.toList.head? == some 35
def lineE (C : Cf) (ws : List ByteArray) : Int := if silent ws then 0 else tellE C (gt ws 0) ws.tail
def lineC (C : Cf) (ws : List ByteArray) : Cf := if silent ws then C else tellC C (gt ws 0) ws.tail

/-- A text's lines from the i-th on: an error and its line, or 0 and the configuration. -/
def goE (C : Cf) : List ByteArray → Int
  | [] => 0
  | l :: r => if lineE C (wordsB l) = 0 then goE (lineC C (wordsB l)) r else lineE C (wordsB l)
def goL (C : Cf) (i : Nat) : List ByteArray → Nat
  | [] => 0
  | l :: r => if lineE C (wordsB l) = 0 then goL (lineC C (wordsB l)) (i + 1) r else i + 1
def goC (C : Cf) : List ByteArray → Cf
  | [] => C
  | l :: r => if lineE C (wordsB l) = 0 then goC (lineC C (wordsB l)) r else cf0

/-- What a text tells. -/
def parE (s : ByteArray) : Int := if 65536 < s.size then 3 else goE cf0 (linesB s)
def parL (s : ByteArray) : Nat := if 65536 < s.size then 0 else goL cf0 0 (linesB s)
def parC (s : ByteArray) : Cf := if 65536 < s.size then cf0 else goC cf0 (linesB s)

theorem gt_tail (L : List ByteArray) (k : Nat) : gt L.tail k = gt L (k + 1) := by
  unfold gt; cases L <;> simp
theorem gt_drop (L : List ByteArray) (j k : Nat) : gt (L.drop j) k = gt L (j + k) := by
  unfold gt; simp [List.getElem?_drop]
end Go.Proofs.YtijjpblmnlednaaGreatDoor
