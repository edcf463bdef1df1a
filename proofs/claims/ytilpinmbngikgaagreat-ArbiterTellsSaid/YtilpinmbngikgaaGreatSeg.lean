/- sanity of layer 9: part 6. -/
import Derived.Test.YtilpinmbngikgaaGreatSd
namespace Go.Proofs.YtilpinmbngikgaaGreat
open Go.RowKit
set_option maxRecDepth 1000000
theorem san_s6 : Ev.segK Tryz.prog 100000 1 (Ev.restC 6 sanBody) sanA5 sanH5 [311, 1, 283, 208, 0, 312, 313, 282] = some (sanA6, sanH6) := by kernel_rfl
end Go.Proofs.YtilpinmbngikgaaGreat
