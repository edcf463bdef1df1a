/- sanity of layer 8: part 13. -/
import Derived.Test.YtkebbdpfjhhdhaaGreatDc
/- sanity of layer 8: part 12. -/
namespace Go.Proofs.YtkebbdpfjhhdhaaGreat
open Go.RowKit
set_option maxRecDepth 1000000
theorem san_s12 : Ev.segKR sanR 1 (Ev.restC 12 sanBody) sanA11 sanH11 [982, 167, 981, 0, 983, 596, 681, 52, 473, 837, 961] = some (sanA12, sanH12) := by kernel_rfl
end Go.Proofs.YtkebbdpfjhhdhaaGreat

/- sanity of layer 8: part 13. -/
namespace Go.Proofs.YtkebbdpfjhhdhaaGreat
open Go.RowKit
set_option maxRecDepth 1000000
theorem san_s13 : Ev.segKR sanR 1 (Ev.restC 13 sanBody) sanA12 sanH12 [982, 167, 981, 0, 983, 596, 681, 52, 473, 837, 961] = some (sanA13, sanH13) := by kernel_rfl
end Go.Proofs.YtkebbdpfjhhdhaaGreat
