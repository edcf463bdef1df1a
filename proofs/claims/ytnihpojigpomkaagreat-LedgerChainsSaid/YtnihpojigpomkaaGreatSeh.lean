/- sanity of layer 8: part 7. -/
import Derived.Test.YtnihpojigpomkaaGreatSd
namespace Go.Proofs.YtnihpojigpomkaaGreat
open Go.RowKit
set_option maxRecDepth 1000000
theorem san_s7 : Ev.segKR sanR 1 (Ev.restC 7 sanBody) sanA6 sanH6 [681, 167, 596, 0, 52, 473, 837] = some (sanA7, sanH7) := by kernel_rfl
end Go.Proofs.YtnihpojigpomkaaGreat
