/- sanity of layer 9: part 8. -/
import Derived.Test.YtilpinmbngikgaaGreatSd
namespace Go.Proofs.YtilpinmbngikgaaGreat
open Go.RowKit
set_option maxRecDepth 1000000
theorem san_s8 : Ev.segK Tryz.prog 100000 1 (Ev.restC 8 sanBody) sanA7 sanH7 [311, 1, 283, 208, 0, 312, 313, 282, 775] = some (sanA8, sanH8) := by kernel_rfl
end Go.Proofs.YtilpinmbngikgaaGreat
