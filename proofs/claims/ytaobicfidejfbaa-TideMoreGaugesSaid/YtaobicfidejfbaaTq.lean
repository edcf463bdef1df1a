/- What Shortest, Apart and Together keep: plain facts. -/
import Derived.Test.YtaobicfidejfbaaTi
namespace Go.Proofs.Ytaobicfidejfbaa
open Go.Proofs.Ytaobicfidejfbaa.Ev

end Go.Proofs.Ytaobicfidejfbaa
