/- sanity of layer 5: part 8. -/
import Derived.Test.YtjlpoomjgidgaaaSd
namespace Go.Proofs.Ytjlpoomjgidgaaa
open Go.RowKit
set_option maxRecDepth 1000000
theorem san_s8 : Ev.segK Try.prog 100000 1 (Ev.restC 8 sanBody) sanA7 sanH7 [343, 663, 2208, 4, 2599, 2595, 2589, 2600, 3, 2, 342, 338, 332, 2189, 2207, 2203, 2197, 1634, 3456, 3467] = some (sanA8, sanH8) := by kernel_rfl
end Go.Proofs.Ytjlpoomjgidgaaa
