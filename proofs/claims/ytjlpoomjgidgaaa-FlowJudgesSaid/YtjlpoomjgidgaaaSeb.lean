/- sanity of layer 5: part 1. -/
import Derived.Test.YtjlpoomjgidgaaaSd
namespace Go.Proofs.Ytjlpoomjgidgaaa
open Go.RowKit
set_option maxRecDepth 1000000
theorem san_s1 : Ev.segK Try.prog 100000 1 (Ev.restC 1 sanBody) sanA0 sanH0 [3, 2, 4] = some (sanA1, sanH1) := by kernel_rfl
end Go.Proofs.Ytjlpoomjgidgaaa
