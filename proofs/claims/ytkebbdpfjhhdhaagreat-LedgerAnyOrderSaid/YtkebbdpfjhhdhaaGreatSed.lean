/- sanity of layer 8: part 3. -/
import Derived.Test.YtkebbdpfjhhdhaaGreatDc
/- sanity of layer 8: part 2. -/
namespace Go.Proofs.YtkebbdpfjhhdhaaGreat
open Go.RowKit
set_option maxRecDepth 1000000
theorem san_s2 : Ev.segKR sanR 1 (Ev.restC 2 sanBody) sanA1 sanH1 [0, 52] = some (sanA2, sanH2) := by kernel_rfl
end Go.Proofs.YtkebbdpfjhhdhaaGreat

/- sanity of layer 8: part 3. -/
namespace Go.Proofs.YtkebbdpfjhhdhaaGreat
open Go.RowKit
set_option maxRecDepth 1000000
theorem san_s3 : Ev.segKR sanR 1 (Ev.restC 3 sanBody) sanA2 sanH2 [167, 0, 52] = some (sanA3, sanH3) := by kernel_rfl
end Go.Proofs.YtkebbdpfjhhdhaaGreat
