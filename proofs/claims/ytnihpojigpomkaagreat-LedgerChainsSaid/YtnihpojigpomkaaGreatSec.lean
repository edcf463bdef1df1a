/- sanity of layer 8: part 2. -/
import Derived.Test.YtnihpojigpomkaaGreatSd
namespace Go.Proofs.YtnihpojigpomkaaGreat
open Go.RowKit
set_option maxRecDepth 1000000
theorem san_s2 : Ev.segKR sanR 1 (Ev.restC 2 sanBody) sanA1 sanH1 [0, 52] = some (sanA2, sanH2) := by kernel_rfl
end Go.Proofs.YtnihpojigpomkaaGreat
