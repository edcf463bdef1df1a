/- Layer 9: the specification's lawful, Lawful. -/
import Derived.Test.YtilpinmbngikgaaMa
import Derived.Test.YtilpinmbngikgaaKt
import Derived.Test.YtilpinmbngikgaaIt
/- Layer 9: the specification's word, last, spoken, there, proposal, upTo, proposable. -/
namespace Go.Proofs.Ytilpinmbngikgaa
open Go.Proofs.Ytilpinmbngikgaa.Ev

end Go.Proofs.Ytilpinmbngikgaa

/- Layer 9: the specification's promises, lawful, Lawful. -/
namespace Go.Proofs.Ytilpinmbngikgaa
open Go.Proofs.Ytilpinmbngikgaa.Ev

/-- letters that a call has made -/
abbrev OwP (l : List Le) (v : AV) (L : Ob) : Prop := IsL 38 8 l.length (enF leC l) v L
end Go.Proofs.Ytilpinmbngikgaa

/- Layer 9: the specification's lawful, Lawful. -/
namespace Go.Proofs.Ytilpinmbngikgaa
open Go.Proofs.Ytilpinmbngikgaa.Ev

/-- letter i is not lawful behind those before it -/
def badS (c : Int) (l : List Le) (i : Nat) : Bool := !lawR c (l.take i) (atL l i)
end Go.Proofs.Ytilpinmbngikgaa
