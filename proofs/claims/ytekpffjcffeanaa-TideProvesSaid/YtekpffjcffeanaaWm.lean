/- The law TideTurns over the calculator's memory. -/
import Derived.Test.YtekpffjcffeanaaWl
namespace Go.Proofs.Ytekpffjcffeanaa
open Go.Proofs.Ytekpffjcffeanaa.Ev

end Go.Proofs.Ytekpffjcffeanaa
