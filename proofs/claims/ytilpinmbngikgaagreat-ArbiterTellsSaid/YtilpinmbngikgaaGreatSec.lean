/- sanity of layer 9: part 2. -/
import Derived.Test.YtilpinmbngikgaaGreatSd
namespace Go.Proofs.YtilpinmbngikgaaGreat
open Go.RowKit
set_option maxRecDepth 1000000
theorem san_s2 : Ev.segK Tryz.prog 100000 1 (Ev.restC 2 sanBody) sanA1 sanH1 [1, 0] = some (sanA2, sanH2) := by kernel_rfl
end Go.Proofs.YtilpinmbngikgaaGreat
