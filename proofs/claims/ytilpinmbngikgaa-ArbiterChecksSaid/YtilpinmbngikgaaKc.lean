/- Layer 9: isMajority; promises of a round as an iterator; votedUpTo. -/
import Derived.Test.YtilpinmbngikgaaKb
import Derived.Test.YtilpinmbngikgaaKa
namespace Go.Proofs.Ytilpinmbngikgaa
open Go.Proofs.Ytilpinmbngikgaa.Ev

end Go.Proofs.Ytilpinmbngikgaa
