/- sanity of layer 9: part 12. -/
import Derived.Test.YtilpinmbngikgaaGreatSd
namespace Go.Proofs.YtilpinmbngikgaaGreat
open Go.RowKit
set_option maxRecDepth 1000000
theorem san_last : Ev.lastTrue Tryz.prog 100000 Tryz.f5 (Ev.restC 12 sanBody) sanA11 sanH11 = true := by decide +kernel
end Go.Proofs.YtilpinmbngikgaaGreat
