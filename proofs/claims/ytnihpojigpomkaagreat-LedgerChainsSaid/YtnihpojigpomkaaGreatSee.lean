/- sanity of layer 8: part 4. -/
import Derived.Test.YtnihpojigpomkaaGreatSd
namespace Go.Proofs.YtnihpojigpomkaaGreat
open Go.RowKit
set_option maxRecDepth 1000000
theorem san_s4 : Ev.segKR sanR 1 (Ev.restC 4 sanBody) sanA3 sanH3 [167, 0, 52] = some (sanA4, sanH4) := by kernel_rfl
end Go.Proofs.YtnihpojigpomkaaGreat
