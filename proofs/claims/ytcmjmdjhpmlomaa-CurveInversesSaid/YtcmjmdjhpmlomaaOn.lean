
/- The contracts of checkOn and checkAt. -/
import Derived.Test.YtcmjmdjhpmlomaaLists
namespace Go.Proofs.Ytcmjmdjhpmlomaa
open Go.RowKit

/-- do all valid curves cover the span? -/
def covL (l : List Cur) (lo hi : Int) : Bool := l.all fun c => decide (dLo c.ks ≤ lo) && decide (hi ≤ dHi c.ks)
def chkOn (l : List Cur) (lo hi : Int) : Int := if hi < lo then 1 else if covL l lo hi then 0 else 3
theorem covL_drop {l : List Cur} {lo hi : Int} {k : Nat} (h : k < l.length) : covL (l.drop k) lo hi = ((decide (dLo l[k].ks ≤ lo) && decide (hi ≤ dHi l[k].ks)) && covL (l.drop (k + 1)) lo hi) := by
  unfold covL; rw [List.drop_eq_getElem_cons h, List.all_cons]

end Go.Proofs.Ytcmjmdjhpmlomaa
