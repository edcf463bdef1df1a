/- The program's comparison of two waters. -/
import Derived.Test.YtekpffjcffeanaaWe
namespace Go.Proofs.Ytekpffjcffeanaa
open Go.Proofs.Ytekpffjcffeanaa.Ev

namespace Ev
variable {P : Program} {B : Base} {Q : Post} {h0 : Heap} {W : List Nat} {N : Nat} {D : List Nat} {K : List Fr} {s : Sl} {L : Ob}
end Ev
end Go.Proofs.Ytekpffjcffeanaa
