/- sanity of layer 8: part 11. -/
import Derived.Test.YtkebbdpfjhhdhaaGreatDc
/- sanity of layer 8: part 10. -/
namespace Go.Proofs.YtkebbdpfjhhdhaaGreat
open Go.RowKit
set_option maxRecDepth 1000000
theorem san_s10 : Ev.segKR sanR 1 (Ev.restC 10 sanBody) sanA9 sanH9 [982, 167, 981, 0, 983, 596, 681, 52, 473, 837, 961] = some (sanA10, sanH10) := by kernel_rfl
end Go.Proofs.YtkebbdpfjhhdhaaGreat

/- sanity of layer 8: part 11. -/
namespace Go.Proofs.YtkebbdpfjhhdhaaGreat
open Go.RowKit
set_option maxRecDepth 1000000
theorem san_s11 : Ev.segKR sanR 1 (Ev.restC 11 sanBody) sanA10 sanH10 [982, 167, 981, 0, 983, 596, 681, 52, 473, 837, 961] = some (sanA11, sanH11) := by kernel_rfl
end Go.Proofs.YtkebbdpfjhhdhaaGreat
