/- Layer 9: the specification's Formed. -/
import Derived.Test.YtilpinmbngikgaaLd
namespace Go.Proofs.Ytilpinmbngikgaa
open Go.Proofs.Ytilpinmbngikgaa.Ev

end Go.Proofs.Ytilpinmbngikgaa
