/- Layer 9: the law ArbiterOnce. -/
import Derived.Test.YtilpinmbngikgaaPz
namespace Go.Proofs.Ytilpinmbngikgaa
open Go.Proofs.Ytilpinmbngikgaa.Ev

end Go.Proofs.Ytilpinmbngikgaa
