/- Plain facts of layer 9: the program's test of a letter and the specification's are the same, as long as all letters before are lawful. -/
import Derived.Test.YtilpinmbngikgaaGreatKe
import Derived.Test.YtilpinmbngikgaaGreatKh
import Derived.Test.YtilpinmbngikgaaGreatKt
namespace Go.Proofs.YtilpinmbngikgaaGreat
section
variable {c : Int} {l : List Le} {cs rd : Int} {i : Nat}
end
end Go.Proofs.YtilpinmbngikgaaGreat
