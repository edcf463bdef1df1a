/- The reference's Apart over the calculator's memory. -/
import Derived.Test.YtaobicfidejfbaaGreatTm
namespace Go.Proofs.YtaobicfidejfbaaGreat
open Go.Proofs.YtaobicfidejfbaaGreat.Ev

def apTo (hs : List Int) (k : Nat) : List Int := (hs.take k).map (· - minH hs)
end Go.Proofs.YtaobicfidejfbaaGreat
