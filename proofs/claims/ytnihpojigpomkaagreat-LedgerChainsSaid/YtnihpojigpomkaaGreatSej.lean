/- sanity of layer 8: part 9. -/
import Derived.Test.YtnihpojigpomkaaGreatSd
namespace Go.Proofs.YtnihpojigpomkaaGreat
open Go.RowKit
set_option maxRecDepth 1000000
theorem san_s9 : Ev.segKR sanR 1 (Ev.restC 9 sanBody) sanA8 sanH8 [681, 167, 596, 981, 0, 961, 52, 473, 837] = some (sanA9, sanH9) := by kernel_rfl
end Go.Proofs.YtnihpojigpomkaaGreat
