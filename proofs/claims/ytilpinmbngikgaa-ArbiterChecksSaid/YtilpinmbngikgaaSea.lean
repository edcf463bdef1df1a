/- sanity of layer 9: part 0. -/
import Derived.Test.YtilpinmbngikgaaSd
namespace Go.Proofs.Ytilpinmbngikgaa
open Go.RowKit
set_option maxRecDepth 1000000
theorem san_s0 : Ev.segK Try.prog 100000 1 (Ev.restC 0 sanBody) (Ev.beginA Try.f10) Ev.emptyH [] = some (sanA0, sanH0) := by kernel_rfl
end Go.Proofs.Ytilpinmbngikgaa
