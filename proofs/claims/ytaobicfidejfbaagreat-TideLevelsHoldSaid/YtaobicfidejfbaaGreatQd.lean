/- agrees, against, Rests of the program. -/
import Derived.Test.YtaobicfidejfbaaGreatQc
import Derived.Test.YtaobicfidejfbaaGreatQq
namespace Go.Proofs.YtaobicfidejfbaaGreat
open Go.Proofs.YtaobicfidejfbaaGreat.Ev

end Go.Proofs.YtaobicfidejfbaaGreat
