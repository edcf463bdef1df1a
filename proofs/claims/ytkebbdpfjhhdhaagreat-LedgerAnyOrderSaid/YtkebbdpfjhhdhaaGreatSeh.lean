/- sanity of layer 8: part 7. -/
import Derived.Test.YtkebbdpfjhhdhaaGreatDc
/- sanity of layer 8: part 6. -/
namespace Go.Proofs.YtkebbdpfjhhdhaaGreat
open Go.RowKit
set_option maxRecDepth 1000000
theorem san_s6 : Ev.segKR sanR 1 (Ev.restC 6 sanBody) sanA5 sanH5 [681, 167, 596, 0, 52, 473] = some (sanA6, sanH6) := by kernel_rfl
end Go.Proofs.YtkebbdpfjhhdhaaGreat

/- sanity of layer 8: part 7. -/
namespace Go.Proofs.YtkebbdpfjhhdhaaGreat
open Go.RowKit
set_option maxRecDepth 1000000
theorem san_s7 : Ev.segKR sanR 1 (Ev.restC 7 sanBody) sanA6 sanH6 [681, 167, 596, 0, 52, 473, 837] = some (sanA7, sanH7) := by kernel_rfl
end Go.Proofs.YtkebbdpfjhhdhaaGreat
