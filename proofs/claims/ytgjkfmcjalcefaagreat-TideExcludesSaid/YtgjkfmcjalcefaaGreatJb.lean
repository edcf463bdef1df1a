/- Gauges of the reference: against, Rests; plain facts: the least that do not agree. -/
import Derived.Test.YtgjkfmcjalcefaaGreatJa
namespace Go.Proofs.YtgjkfmcjalcefaaGreat
open Go.Proofs.YtgjkfmcjalcefaaGreat.Ev

def rgF (cs : List Cy) (ss : List Sh) (v : Int) (x : Int) (g : Ga) : Int := if agG cs ss g v = false ∧ (x = 0 ∨ g.id < x) then g.id else x
def ragR (cs : List Cy) (ss : List Sh) (l : List Ga) (v : Int) : Int := if inB v 4000 = true then l.foldl (rgF cs ss v) 0 else 0
end Go.Proofs.YtgjkfmcjalcefaaGreat
