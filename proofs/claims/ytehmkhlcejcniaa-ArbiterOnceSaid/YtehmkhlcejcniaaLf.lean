/- Layer 9: the specification's Formed. -/
import Derived.Test.YtehmkhlcejcniaaLd
namespace Go.Proofs.Ytehmkhlcejcniaa
open Go.Proofs.Ytehmkhlcejcniaa.Ev

end Go.Proofs.Ytehmkhlcejcniaa
