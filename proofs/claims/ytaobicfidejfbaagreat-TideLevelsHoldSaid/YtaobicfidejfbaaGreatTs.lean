/- The law TideCyclesHold over the calculator's memory. -/
import Derived.Test.YtaobicfidejfbaaGreatTq
import Derived.Test.YtaobicfidejfbaaGreatTj
namespace Go.Proofs.YtaobicfidejfbaaGreat
open Go.Proofs.YtaobicfidejfbaaGreat.Ev

def isMin (t : Int) : Bool := decide (0 ≤ t) && decide (t ≤ 1048576)
def cvalR (c : Cy) (t : Int) : Int × Int := if cyOk c = true ∧ isMin t = true then (valC c t, 0) else (0, 1)
/-- is there a difference among the first n? -/
def difTo (xs : List Int) (m n : Nat) : Bool := (List.range n).any fun i => nth xs (i % m) != nth xs (i % xs.length)
end Go.Proofs.YtaobicfidejfbaaGreat
