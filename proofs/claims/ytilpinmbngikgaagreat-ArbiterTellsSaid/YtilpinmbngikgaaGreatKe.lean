/- Layer 9: the program's firstUnlawful (a map of lists), Lawful. -/
import Derived.Test.YtilpinmbngikgaaGreatKd
import Derived.Test.YtilpinmbngikgaaGreatKt
namespace Go.Proofs.YtilpinmbngikgaaGreat
open Go.Proofs.YtilpinmbngikgaaGreat.Ev

/-- the entries of the map of what was said, and the lists that it holds -/
def entE : CT → Nat → List (AV × AV × Nat)
  | [], _ => []
  | (k, j, ls) :: r, c => (.int .i64 k, .slice j 0 ls.length (.m 0), c) :: entE r (c + 1)
def rowsE (T : CT) : Ob := T.map fun e => (e.2.1, .row (enF leC e.2.2) 50 8)
/-- letter i is not lawful behind those before it -/
def badN (c : Int) (l : List Le) (i : Nat) : Bool := !(Bool.or ((dedT l (atL l i).cs i).any (alikeB (atL l i))) (sayC c (dedT l (atL l i).cs i) (atL l i)))
theorem Ev.Vw.getO {h0 h : Heap} {W : List Nat} {V : Ob} {j : Nat} {o : AObj} (k : Vw h0 W V h) (hm : (j, o) ∈ V) : h.get j = some o := (k.own _ hm).1
end Go.Proofs.YtilpinmbngikgaaGreat
