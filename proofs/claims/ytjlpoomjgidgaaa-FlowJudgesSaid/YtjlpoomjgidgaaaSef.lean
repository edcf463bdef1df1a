/- sanity of layer 5: part 5. -/
import Derived.Test.YtjlpoomjgidgaaaSd
namespace Go.Proofs.Ytjlpoomjgidgaaa
open Go.RowKit
set_option maxRecDepth 1000000
theorem san_s5 : Ev.segK Try.prog 100000 1 (Ev.restC 5 sanBody) sanA4 sanH4 [343, 663, 2208, 4, 3, 2, 342, 338, 332, 2189, 2207, 2203, 2197, 1634] = some (sanA5, sanH5) := by kernel_rfl
end Go.Proofs.Ytjlpoomjgidgaaa
