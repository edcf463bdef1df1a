/- What Shortest, Apart and Together keep: plain facts. -/
import Derived.Test.YtekpffjcffeanaaTi
namespace Go.Proofs.Ytekpffjcffeanaa
open Go.Proofs.Ytekpffjcffeanaa.Ev

end Go.Proofs.Ytekpffjcffeanaa
