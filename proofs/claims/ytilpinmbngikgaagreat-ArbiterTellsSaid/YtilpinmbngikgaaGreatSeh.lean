/- sanity of layer 9: part 7. -/
import Derived.Test.YtilpinmbngikgaaGreatSd
namespace Go.Proofs.YtilpinmbngikgaaGreat
open Go.RowKit
set_option maxRecDepth 1000000
theorem san_s7 : Ev.segK Tryz.prog 100000 1 (Ev.restC 7 sanBody) sanA6 sanH6 [311, 1, 775, 283, 208, 0, 312, 313, 282] = some (sanA7, sanH7) := by kernel_rfl
end Go.Proofs.YtilpinmbngikgaaGreat
