/- sanity of layer 8: part 6. -/
import Derived.Test.YtnihpojigpomkaaGreatSd
namespace Go.Proofs.YtnihpojigpomkaaGreat
open Go.RowKit
set_option maxRecDepth 1000000
theorem san_s6 : Ev.segKR sanR 1 (Ev.restC 6 sanBody) sanA5 sanH5 [681, 167, 596, 0, 52, 473] = some (sanA6, sanH6) := by kernel_rfl
end Go.Proofs.YtnihpojigpomkaaGreat
