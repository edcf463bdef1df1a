/- sanity of layer 8: part 8. -/
import Derived.Test.YtnihpojigpomkaaGreatSd
namespace Go.Proofs.YtnihpojigpomkaaGreat
open Go.RowKit
set_option maxRecDepth 1000000
theorem san_s8 : Ev.segKR sanR 1 (Ev.restC 8 sanBody) sanA7 sanH7 [681, 167, 596, 0, 961, 52, 473, 837] = some (sanA8, sanH8) := by kernel_rfl
end Go.Proofs.YtnihpojigpomkaaGreat
