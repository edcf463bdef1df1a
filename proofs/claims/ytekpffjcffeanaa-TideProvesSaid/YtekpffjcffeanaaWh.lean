/- The stands of a water: the iterator stands, and the list of all of them. -/
import Derived.Test.YtekpffjcffeanaaWf
import Derived.Test.YtekpffjcffeanaaWq
namespace Go.Proofs.Ytekpffjcffeanaa
open Go.Proofs.Ytekpffjcffeanaa.Ev

def sdC (s : Sd) : List AV := [.int .i64 s.lo, .int .i64 s.hi, .int .i64 s.ht]
/-- the height of a water k minutes behind lo -/
def hgt (lv : Int) (cs : List Cy) (ss : List Sh) (lo : Int) (k : Nat) : Int := lv + bareV cs ss (lo + (k : Int))
end Go.Proofs.Ytekpffjcffeanaa
