/- sanity of layer 9: part 5. -/
import Derived.Test.YtilpinmbngikgaaGreatSd
namespace Go.Proofs.YtilpinmbngikgaaGreat
open Go.RowKit
set_option maxRecDepth 1000000
theorem san_s5 : Ev.segK Tryz.prog 100000 1 (Ev.restC 5 sanBody) sanA4 sanH4 [311, 1, 313, 283, 208, 0, 312, 282] = some (sanA5, sanH5) := by kernel_rfl
end Go.Proofs.YtilpinmbngikgaaGreat
