/- sanity of layer 8: part 14. -/
import Derived.Test.YtnihpojigpomkaaGreatSd
namespace Go.Proofs.YtnihpojigpomkaaGreat
open Go.RowKit
set_option maxRecDepth 1000000
theorem san_last : Ev.lastTrueR Tryz.prog sanR Tryz.f6 (Ev.restC 14 sanBody) sanA13 sanH13 = true := by decide +kernel
end Go.Proofs.YtnihpojigpomkaaGreat
