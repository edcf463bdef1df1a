/- The highest and the lowest water: Highest, Lowest, the reference's Extreme; the law TidePeaks. -/
import Derived.Test.YtekpffjcffeanaaWm
import Derived.Test.YtekpffjcffeanaaWs
namespace Go.Proofs.Ytekpffjcffeanaa
open Go.Proofs.Ytekpffjcffeanaa.Ev

def cmpI (x y : Int) : Int := if x < y then -1 else if y < x then 1 else 0
/-- a greatest or least height, and the first minute that has it -/
def pkR (lv : Int) (cs : List Cy) (ss : List Sh) (lo hi : Int) (b : Bool) : Int × Int × Int :=
  if minR lv cs ss lo hi ≠ 0 then (0, 0, minR lv cs ss lo hi) else (hgt lv cs ss lo (exK b (hgt lv cs ss lo) (hi - lo).toNat), lo + (exK b (hgt lv cs ss lo) (hi - lo).toNat : Int), 0)
end Go.Proofs.Ytekpffjcffeanaa
