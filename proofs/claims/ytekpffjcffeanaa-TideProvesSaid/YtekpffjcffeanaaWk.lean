/- High and low waters: the program's turns, the reference's Turning; the law TideTurns. -/
import Derived.Test.YtekpffjcffeanaaWj
import Derived.Test.YtekpffjcffeanaaWg
namespace Go.Proofs.Ytekpffjcffeanaa
open Go.Proofs.Ytekpffjcffeanaa.Ev

/-- the stands that go beyond both neighbours -/
def trnR (lv : Int) (cs : List Cy) (ss : List Sh) (lo hi : Int) (b : Bool) : List Sd := turnS (stdR lv cs ss lo hi) b (stdR lv cs ss lo hi).length
end Go.Proofs.Ytekpffjcffeanaa
