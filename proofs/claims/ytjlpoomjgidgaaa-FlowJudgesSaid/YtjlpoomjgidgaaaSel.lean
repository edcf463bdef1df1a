/- sanity of layer 5: part 11. -/
import Derived.Test.YtjlpoomjgidgaaaSd
namespace Go.Proofs.Ytjlpoomjgidgaaa
open Go.RowKit
set_option maxRecDepth 1000000
theorem san_s11 : Ev.segK Try.prog 100000 1 (Ev.restC 11 sanBody) sanA10 sanH10 [3469, 343, 663, 2208, 4, 2599, 2595, 2589, 2600, 2, 3470, 3, 342, 338, 332, 2189, 2207, 2203, 2197, 1634, 3456, 3467, 4729] = some (sanA11, sanH11) := by kernel_rfl
end Go.Proofs.Ytjlpoomjgidgaaa
