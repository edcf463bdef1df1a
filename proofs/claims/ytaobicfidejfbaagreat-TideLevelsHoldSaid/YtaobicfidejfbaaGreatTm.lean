/- Apart, the program's and the reference's, over the calculator's memory. -/
import Derived.Test.YtaobicfidejfbaaGreatTg
namespace Go.Proofs.YtaobicfidejfbaaGreat
open Go.Proofs.YtaobicfidejfbaaGreat.Ev

/-- what Apart returns -/
def ApOut (r : Int × Cy × Int) (v : AV) (L : Ob) : Prop := ∃ hv, IsIs r.2.1.hs hv L ∧ v = .tup [.int .i64 r.1, .agg [.int .i64 r.2.1.id, .int .i64 r.2.1.bg, .int .i64 r.2.1.ev, hv], .int .i64 r.2.2]
end Go.Proofs.YtaobicfidejfbaaGreat
