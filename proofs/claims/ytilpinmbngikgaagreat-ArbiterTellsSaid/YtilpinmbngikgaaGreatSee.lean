/- sanity of layer 9: part 4. -/
import Derived.Test.YtilpinmbngikgaaGreatSd
namespace Go.Proofs.YtilpinmbngikgaaGreat
open Go.RowKit
set_option maxRecDepth 1000000
theorem san_s4 : Ev.segK Tryz.prog 100000 1 (Ev.restC 4 sanBody) sanA3 sanH3 [1, 283, 208, 0, 282] = some (sanA4, sanH4) := by kernel_rfl
end Go.Proofs.YtilpinmbngikgaaGreat
