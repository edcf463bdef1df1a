/- sanity of layer 8: part 1. -/
import Derived.Test.YtkebbdpfjhhdhaaGreatDc
/- sanity of layer 8: part 0. -/
namespace Go.Proofs.YtkebbdpfjhhdhaaGreat
open Go.RowKit
set_option maxRecDepth 1000000
theorem san_s0 : Ev.segKR sanR 1 (Ev.restC 0 sanBody) (Ev.beginA Tryz.f18) Ev.emptyH [] = some (sanA0, sanH0) := by kernel_rfl
end Go.Proofs.YtkebbdpfjhhdhaaGreat

/- sanity of layer 8: part 1. -/
namespace Go.Proofs.YtkebbdpfjhhdhaaGreat
open Go.RowKit
set_option maxRecDepth 1000000
theorem san_s1 : Ev.segKR sanR 1 (Ev.restC 1 sanBody) sanA0 sanH0 [0] = some (sanA1, sanH1) := by kernel_rfl
end Go.Proofs.YtkebbdpfjhhdhaaGreat
