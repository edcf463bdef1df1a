/- The reference's Apart over the calculator's memory. -/
import Derived.Test.YtekpffjcffeanaaTm
namespace Go.Proofs.Ytekpffjcffeanaa
open Go.Proofs.Ytekpffjcffeanaa.Ev

def apTo (hs : List Int) (k : Nat) : List Int := (hs.take k).map (· - minH hs)
end Go.Proofs.Ytekpffjcffeanaa
