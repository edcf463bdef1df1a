/- The reference's Apart over the calculator's memory. -/
import Derived.Test.YtaobicfidejfbaaTm
namespace Go.Proofs.Ytaobicfidejfbaa
open Go.Proofs.Ytaobicfidejfbaa.Ev

def apTo (hs : List Int) (k : Nat) : List Int := (hs.take k).map (· - minH hs)
end Go.Proofs.Ytaobicfidejfbaa
