/- sanity of layer 9: part 1. -/
import Derived.Test.YtilpinmbngikgaaGreatSd
namespace Go.Proofs.YtilpinmbngikgaaGreat
open Go.RowKit
set_option maxRecDepth 1000000
theorem san_s1 : Ev.segK Tryz.prog 100000 1 (Ev.restC 1 sanBody) sanA0 sanH0 [0] = some (sanA1, sanH1) := by kernel_rfl
end Go.Proofs.YtilpinmbngikgaaGreat
