/- sanity of layer 5: part 3. -/
import Derived.Test.YtjlpoomjgidgaaaSd
namespace Go.Proofs.Ytjlpoomjgidgaaa
open Go.RowKit
set_option maxRecDepth 1000000
theorem san_s3 : Ev.segK Try.prog 100000 1 (Ev.restC 3 sanBody) sanA2 sanH2 [343, 663, 3, 2, 4, 342, 338, 332] = some (sanA3, sanH3) := by kernel_rfl
end Go.Proofs.Ytjlpoomjgidgaaa
