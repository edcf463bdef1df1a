/- The reference's Check, Value, Height over the calculator's memory; the laws' few. -/
import Derived.Test.YtaobicfidejfbaaUb
namespace Go.Proofs.Ytaobicfidejfbaa
open Go.Proofs.Ytaobicfidejfbaa.Ev

theorem CyH.id_ {h : Heap} {b off l} (k : CyH h b off l) {z : Int} {n : Nat} (e : z.toNat = n) (hi : n < l.length) : Rd h b (off + z.toNat * 4) (.int .i64 (nthW l n).c.id) := (k.at_ e hi).1
theorem CyH.hs_ {h : Heap} {b off l} (k : CyH h b off l) {z : Int} {n : Nat} (e : z.toNat = n) (hi : n < l.length) : Rd h b (off + z.toNat * 4 + 3) (nthW l n).v := (k.at_ e hi).2.2.2.1
/-- the greatest end so far -/
def befS (ss : List Sh) (k : Nat) : Int := if k = 0 then -1 else (nthS ss (k - 1)).to
end Go.Proofs.Ytaobicfidejfbaa
