/- What Shortest, Apart and Together keep: plain facts. -/
import Derived.Test.YtaobicfidejfbaaGreatTi
namespace Go.Proofs.YtaobicfidejfbaaGreat
open Go.Proofs.YtaobicfidejfbaaGreat.Ev

end Go.Proofs.YtaobicfidejfbaaGreat
