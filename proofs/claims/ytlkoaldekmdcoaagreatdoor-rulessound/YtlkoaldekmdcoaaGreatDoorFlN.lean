/-
  What is filled, as functions. No condition.
-/
import Derived.Test.YtlkoaldekmdcoaaGreatDoorMathC
namespace Go.Proofs.YtlkoaldekmdcoaaGreatDoor

def tCatch : ByteArray := ⟨#[99, 97, 116, 99, 104, 45, 97, 108, 108]⟩
def tMasters : ByteArray := ⟨#[115, 121, 115, 116, 101, 109, 58, 109, 97, 115, 116, 101, 114, 115]⟩
def tStar : ByteArray := ⟨#[42]⟩
def orU (x u : Int) : Int := if x = 0 then u else x
def lvX : Lv := ⟨tExempt, 1, 0, 0, 0, 0, 0, 0, 0, 0⟩
def lvY : Lv := ⟨tCatch, 2, 5, 0, -1, 0, 0, 0, 0, 0⟩
def rlX : Rl := ⟨[], [tMasters], [tStar], [tStar], [tStar]⟩
def rlY : Rl := ⟨[tStar], [], [tStar], [tStar], [tStar]⟩
def scX : Sc := ⟨tExempt, tExempt, 1, 0, [rlX]⟩
def scY : Sc := ⟨tCatch, tCatch, 10000, 1, [rlY]⟩
def anyL (L : List Lv) (x : ByteArray) : Bool := L.any fun l => decide (l.name = x)
def anyS (L : List Sc) (x : ByteArray) : Bool := L.any fun l => decide (l.name = x)
def putX {α : Type} (b : Bool) (L : List α) (x : α) : List α := if b then L else L ++ [x]
def fillL (L : List Lv) : List Lv := putX (anyL L tCatch) (putX (anyL L tExempt) L lvX) lvY
def fillS (L : List Sc) : List Sc := putX (anyS L tCatch) (putX (anyS L tExempt) L scX) scY
def fillC (C : Cf) : Cf := ⟨orU C.total 100, orU C.period 10, orU C.perSeat 100, orU C.most 10, fillL C.levels, fillS C.schemas⟩


end Go.Proofs.YtlkoaldekmdcoaaGreatDoor
