/- sanity of layer 5: part 2. -/
import Derived.Test.YtjlpoomjgidgaaaSd
namespace Go.Proofs.Ytjlpoomjgidgaaa
open Go.RowKit
set_option maxRecDepth 1000000
theorem san_s2 : Ev.segK Try.prog 100000 1 (Ev.restC 2 sanBody) sanA1 sanH1 [343, 3, 2, 4, 342, 338, 332] = some (sanA2, sanH2) := by kernel_rfl
end Go.Proofs.Ytjlpoomjgidgaaa
