/- sanity of layer 9: part 12. -/
import Derived.Test.YtilpinmbngikgaaSd
namespace Go.Proofs.Ytilpinmbngikgaa
open Go.RowKit
set_option maxRecDepth 1000000
theorem san_last : Ev.lastTrue Try.prog 100000 Try.f10 (Ev.restC 12 sanBody) sanA11 sanH11 = true := by decide +kernel
end Go.Proofs.Ytilpinmbngikgaa
