/- sanity of layer 9: part 9. -/
import Derived.Test.YtilpinmbngikgaaGreatSd
namespace Go.Proofs.YtilpinmbngikgaaGreat
open Go.RowKit
set_option maxRecDepth 1000000
theorem san_s9 : Ev.segK Tryz.prog 100000 1 (Ev.restC 9 sanBody) sanA8 sanH8 [311, 1, 283, 208, 0, 312, 911, 313, 282, 775] = some (sanA9, sanH9) := by kernel_rfl
end Go.Proofs.YtilpinmbngikgaaGreat
