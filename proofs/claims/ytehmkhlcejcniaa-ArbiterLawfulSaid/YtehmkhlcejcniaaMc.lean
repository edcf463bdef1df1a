/- Layer 9: the program's Pick. -/
import Derived.Test.YtehmkhlcejcniaaMb
namespace Go.Proofs.Ytehmkhlcejcniaa
open Go.Proofs.Ytehmkhlcejcniaa.Ev

end Go.Proofs.Ytehmkhlcejcniaa
