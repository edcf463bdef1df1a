/- The list of all stands: slices.Collect of the iterator; Stands. -/
import Derived.Test.YtekpffjcffeanaaWh
namespace Go.Proofs.Ytekpffjcffeanaa
open Go.Proofs.Ytekpffjcffeanaa.Ev

namespace Ev
end Ev
/-- stands, cell by cell -/
def sdF (l : List Sd) : List AV := (l.map sdC).flatten
/-- the stands of a span of minutes, if there is no error -/
def stdR (lv : Int) (cs : List Cy) (ss : List Sh) (lo hi : Int) : List Sd := if minR lv cs ss lo hi ≠ 0 then [] else allS (hgt lv cs ss lo) lo (hi - lo + 1).toNat
end Go.Proofs.Ytekpffjcffeanaa
