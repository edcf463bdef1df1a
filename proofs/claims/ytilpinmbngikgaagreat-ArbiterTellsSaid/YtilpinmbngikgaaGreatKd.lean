/- Layer 9: the program's canPropose, canSay. -/
import Derived.Test.YtilpinmbngikgaaGreatKc
namespace Go.Proofs.YtilpinmbngikgaaGreat
open Go.Proofs.YtilpinmbngikgaaGreat.Ev

/-- a promise that allows a finding -/
def letsB (c : Int) (l : List Le) (x y : Le) : Bool := decide (y.vo > 0) && (decide (y.fi = x.fi) && decide ((popN (vBits l x.rd y.vo) : Int) ≥ maj c))
def canPp (c : Int) (l : List Le) (x : Le) : Bool := if prB l x.cs x.rd = true then false else if (popN (vBits l x.rd 0) : Int) ≥ maj c then true else (prms l x.rd).any (letsB c l x)
/-- what can be said behind others of its case -/
def sayC (c : Int) (l : List Le) (x : Le) : Bool := if x.kd = 2 then canPr l x else if x.kd = 3 then canPp c l x else if x.kd = 4 then canVo l x else true
end Go.Proofs.YtilpinmbngikgaaGreat
