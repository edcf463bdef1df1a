/- sanity of layer 8: part 0. -/
import Derived.Test.YtnihpojigpomkaaGreatSd
namespace Go.Proofs.YtnihpojigpomkaaGreat
open Go.RowKit
set_option maxRecDepth 1000000
theorem san_s0 : Ev.segKR sanR 1 (Ev.restC 0 sanBody) (Ev.beginA Tryz.f6) Ev.emptyH [] = some (sanA0, sanH0) := by kernel_rfl
end Go.Proofs.YtnihpojigpomkaaGreat
