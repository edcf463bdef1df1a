/- Plain facts: gauges that clash, those that are suspected. No walk. -/
import Derived.Test.YtgjkfmcjalcefaaGreatQq
namespace Go.Proofs.YtgjkfmcjalcefaaGreat

def neG (cs : List Cy) (ss : List Sh) (g : Ga) : Bool := decide ((lvG cs ss g).1 ≤ (lvG cs ss g).2)
def fitG (cs : List Cy) (ss : List Sh) (l : List Ga) : Bool := decide ((comG cs ss l).1 ≤ (comG cs ss l).2)
/-- do two gauges agree with some level together? -/
def toG (cs : List Cy) (ss : List Sh) (a b : Ga) : Bool := decide (max (lvG cs ss a).1 (lvG cs ss b).1 ≤ min (lvG cs ss a).2 (lvG cs ss b).2)
/-- the pairs of a gauge with those behind it -/
def pairP (cs : List Cy) (ss : List Sh) (a : Ga) (b : Ga) : List (Int × Int) := if (neG cs ss b && !toG cs ss a b) = true then [(a.id, b.id)] else []
def pairsTo (cs : List Cy) (ss : List Sh) (a : Ga) (r : List Ga) : List (Int × Int) := r.flatMap (pairP cs ss a)
def rowCl (cs : List Cy) (ss : List Sh) (a : Ga) (r : List Ga) : List (Int × Int) := if neG cs ss a = true then pairsTo cs ss a r else [(a.id, a.id)]
/-- the pairs of the first k gauges -/
def clTo (cs : List Cy) (ss : List Sh) (l : List Ga) : Nat → List (Int × Int)
  | 0 => []
  | k + 1 => clTo cs ss l k ++ rowCl cs ss (nthG l k) (l.drop (k + 1))
/-- a pair of all: two gauges that don't agree, or one that agrees with nothing -/
def Cl (cs : List Cy) (ss : List Sh) (a b : Ga) : Prop := (a = b ∧ neG cs ss a = false) ∨ (neG cs ss a = true ∧ neG cs ss b = true ∧ toG cs ss a b = false)
end Go.Proofs.YtgjkfmcjalcefaaGreat
