/- sanity of layer 8: part 9. -/
import Derived.Test.YtkebbdpfjhhdhaaGreatDc
/- sanity of layer 8: part 8. -/
namespace Go.Proofs.YtkebbdpfjhhdhaaGreat
open Go.RowKit
set_option maxRecDepth 1000000
theorem san_s8 : Ev.segKR sanR 1 (Ev.restC 8 sanBody) sanA7 sanH7 [681, 167, 596, 0, 961, 52, 473, 837] = some (sanA8, sanH8) := by kernel_rfl
end Go.Proofs.YtkebbdpfjhhdhaaGreat

/- sanity of layer 8: part 9. -/
namespace Go.Proofs.YtkebbdpfjhhdhaaGreat
open Go.RowKit
set_option maxRecDepth 1000000
theorem san_s9 : Ev.segKR sanR 1 (Ev.restC 9 sanBody) sanA8 sanH8 [681, 167, 596, 981, 0, 961, 52, 473, 837] = some (sanA9, sanH9) := by kernel_rfl
end Go.Proofs.YtkebbdpfjhhdhaaGreat
