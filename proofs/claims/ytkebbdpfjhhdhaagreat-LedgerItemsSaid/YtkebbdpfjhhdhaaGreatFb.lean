/- Layer 8: only and sums of postings over the calculator's memory. -/
import Derived.Test.YtkebbdpfjhhdhaaGreatDf
import Derived.Test.YtkebbdpfjhhdhaaGreatDv
/- Layer 8: only and sums of items over the calculator's memory. -/
namespace Go.Proofs.YtkebbdpfjhhdhaaGreat
open Go.Proofs.YtkebbdpfjhhdhaaGreat.Ev

end Go.Proofs.YtkebbdpfjhhdhaaGreat

/- Layer 8: only and sums of postings over the calculator's memory. -/
namespace Go.Proofs.YtkebbdpfjhhdhaaGreat
open Go.Proofs.YtkebbdpfjhhdhaaGreat.Ev

abbrev PoH := EH poC 4
abbrev PoV := EV poC 4
theorem PoV.llen {h : Heap} {v : AV} {l : List Po} (k : PoV h v l) : ∀ h2, lenA Tryz.prog 35 h2 v = some (.int .i64 (l.length : Int)) := EV.len k Tryz.underlying35
end Go.Proofs.YtkebbdpfjhhdhaaGreat
