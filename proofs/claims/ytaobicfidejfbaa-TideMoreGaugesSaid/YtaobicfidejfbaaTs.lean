/- The law TideCyclesHold over the calculator's memory. -/
import Derived.Test.YtaobicfidejfbaaTq
import Derived.Test.YtaobicfidejfbaaTj
namespace Go.Proofs.Ytaobicfidejfbaa
open Go.Proofs.Ytaobicfidejfbaa.Ev

def isMin (t : Int) : Bool := decide (0 ≤ t) && decide (t ≤ 1048576)
def cvalR (c : Cy) (t : Int) : Int × Int := if cyOk c = true ∧ isMin t = true then (valC c t, 0) else (0, 1)
theorem evRem {P : Program} {t : TypeId} {a b q : Int} (hb : b ≠ 0) (e : a.tmod b = q) : evBin P .rem t (.int .i64 a) (.int .i64 b) = some (.int .i64 q) := by
  subst e
  unfold evBin evInt
  simp [hb]
/-- is there a difference among the first n? -/
def difTo (xs : List Int) (m n : Nat) : Bool := (List.range n).any fun i => nth xs (i % m) != nth xs (i % xs.length)
end Go.Proofs.Ytaobicfidejfbaa
