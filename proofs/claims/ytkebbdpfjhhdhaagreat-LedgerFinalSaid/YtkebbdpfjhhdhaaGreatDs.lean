/- Layer 8: the reference's Check. -/
import Derived.Test.YtkebbdpfjhhdhaaGreatDi
/- Layer 8: the reference's Formed. -/
namespace Go.Proofs.YtkebbdpfjhhdhaaGreat
open Go.Proofs.YtkebbdpfjhhdhaaGreat.Ev

end Go.Proofs.YtkebbdpfjhhdhaaGreat

/- Layer 8: the reference's Check. -/
namespace Go.Proofs.YtkebbdpfjhhdhaaGreat
open Go.Proofs.YtkebbdpfjhhdhaaGreat.Ev

end Go.Proofs.YtkebbdpfjhhdhaaGreat
