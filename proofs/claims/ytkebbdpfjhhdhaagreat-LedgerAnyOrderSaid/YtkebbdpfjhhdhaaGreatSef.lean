/- sanity of layer 8: part 5. -/
import Derived.Test.YtkebbdpfjhhdhaaGreatDc
/- sanity of layer 8: part 4. -/
namespace Go.Proofs.YtkebbdpfjhhdhaaGreat
open Go.RowKit
set_option maxRecDepth 1000000
theorem san_s4 : Ev.segKR sanR 1 (Ev.restC 4 sanBody) sanA3 sanH3 [167, 0, 52] = some (sanA4, sanH4) := by kernel_rfl
end Go.Proofs.YtkebbdpfjhhdhaaGreat

/- sanity of layer 8: part 5. -/
namespace Go.Proofs.YtkebbdpfjhhdhaaGreat
open Go.RowKit
set_option maxRecDepth 1000000
theorem san_s5 : Ev.segKR sanR 1 (Ev.restC 5 sanBody) sanA4 sanH4 [167, 0, 52, 473] = some (sanA5, sanH5) := by kernel_rfl
end Go.Proofs.YtkebbdpfjhhdhaaGreat
