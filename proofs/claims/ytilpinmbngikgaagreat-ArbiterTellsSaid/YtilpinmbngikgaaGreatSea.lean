/- sanity of layer 9: part 0. -/
import Derived.Test.YtilpinmbngikgaaGreatSd
namespace Go.Proofs.YtilpinmbngikgaaGreat
open Go.RowKit
set_option maxRecDepth 1000000
theorem san_s0 : Ev.segK Tryz.prog 100000 1 (Ev.restC 0 sanBody) (Ev.beginA Tryz.f5) Ev.emptyH [] = some (sanA0, sanH0) := by kernel_rfl
end Go.Proofs.YtilpinmbngikgaaGreat
