/- sanity of layer 8: part 3. -/
import Derived.Test.YtnihpojigpomkaaGreatSd
namespace Go.Proofs.YtnihpojigpomkaaGreat
open Go.RowKit
set_option maxRecDepth 1000000
theorem san_s3 : Ev.segKR sanR 1 (Ev.restC 3 sanBody) sanA2 sanH2 [167, 0, 52] = some (sanA3, sanH3) := by kernel_rfl
end Go.Proofs.YtnihpojigpomkaaGreat
