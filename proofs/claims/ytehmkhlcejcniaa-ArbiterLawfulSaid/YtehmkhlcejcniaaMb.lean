/- Layer 9: the program's agree. -/
import Derived.Test.YtehmkhlcejcniaaMa
namespace Go.Proofs.Ytehmkhlcejcniaa
open Go.Proofs.Ytehmkhlcejcniaa.Ev

end Go.Proofs.Ytehmkhlcejcniaa
