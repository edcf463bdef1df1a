/- Layer 9: Alike of both. -/
import Derived.Test.YtilpinmbngikgaaGreatLb
namespace Go.Proofs.YtilpinmbngikgaaGreat
open Go.Proofs.YtilpinmbngikgaaGreat.Ev

def leC (x : Le) : List AV := [.int .i64 x.id, .int .i64 x.cs, .int .i64 x.kd, .int .i64 x.rd, .int .i64 x.fr, .int .i64 x.to, .int .i64 x.vo, .int .i64 x.fi]
/-- two letters are equal -/
def sameB (a b : Le) : Bool := a.id == b.id && (a.cs == b.cs && (a.kd == b.kd && (a.rd == b.rd && (a.fr == b.fr && (a.to == b.to && (a.vo == b.vo && a.fi == b.fi))))))
end Go.Proofs.YtilpinmbngikgaaGreat
