/- Plain facts of layer 9: the program's test of a letter and the specification's are the same, as long as all letters before are lawful. -/
import Derived.Test.YtilpinmbngikgaaKe
import Derived.Test.YtilpinmbngikgaaKh
import Derived.Test.YtilpinmbngikgaaKt
namespace Go.Proofs.Ytilpinmbngikgaa
section
variable {c : Int} {l : List Le} {cs rd : Int} {i : Nat}
end
end Go.Proofs.Ytilpinmbngikgaa
