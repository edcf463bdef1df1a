/- sanity of layer 8: part 1. -/
import Derived.Test.YtnihpojigpomkaaGreatSd
namespace Go.Proofs.YtnihpojigpomkaaGreat
open Go.RowKit
set_option maxRecDepth 1000000
theorem san_s1 : Ev.segKR sanR 1 (Ev.restC 1 sanBody) sanA0 sanH0 [0] = some (sanA1, sanH1) := by kernel_rfl
end Go.Proofs.YtnihpojigpomkaaGreat
