/- sanity of layer 9: part 3. -/
import Derived.Test.YtilpinmbngikgaaGreatSd
namespace Go.Proofs.YtilpinmbngikgaaGreat
open Go.RowKit
set_option maxRecDepth 1000000
theorem san_s3 : Ev.segK Tryz.prog 100000 1 (Ev.restC 3 sanBody) sanA2 sanH2 [1, 208, 0, 282] = some (sanA3, sanH3) := by kernel_rfl
end Go.Proofs.YtilpinmbngikgaaGreat
