/- Layer 9: the program's isWord, lastVote, lastWord, isOpen, proposed, canPromise, canVote. -/
import Derived.Test.YtilpinmbngikgaaMa
import Derived.Test.YtilpinmbngikgaaKt
namespace Go.Proofs.Ytilpinmbngikgaa
open Go.Proofs.Ytilpinmbngikgaa.Ev

end Go.Proofs.Ytilpinmbngikgaa
