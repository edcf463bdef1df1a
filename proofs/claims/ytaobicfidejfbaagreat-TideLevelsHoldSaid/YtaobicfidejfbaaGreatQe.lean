/- Rests of the program; gauges that are an argument. -/
import Derived.Test.YtaobicfidejfbaaGreatQd
import Derived.Test.YtaobicfidejfbaaGreatOg
namespace Go.Proofs.YtaobicfidejfbaaGreat
open Go.ChangeShapes Go.WideShapes Go.ChangeAt Go.RowKit Go.Deep Go.Proofs.YtaobicfidejfbaaGreat.Ev

end Go.Proofs.YtaobicfidejfbaaGreat
