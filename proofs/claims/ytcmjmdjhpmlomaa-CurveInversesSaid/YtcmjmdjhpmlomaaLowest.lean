
/- The contracts of Lowest and Compare, of the code and of the reference. -/
import Derived.Test.YtcmjmdjhpmlomaaFrac
namespace Go.Proofs.Ytcmjmdjhpmlomaa
open Go.RowKit

/-- is it a fraction in lowest terms, within the limits? -/
def isF (n d : Int) : Bool := decide (1 ≤ d) && (decide (d ≤ 4194304) && (inB n 549755813888 && decide (Int.gcd n d = 1)))

theorem inB_iff {n m : Int} : inB n m = true ↔ -m ≤ n ∧ n ≤ m := by simp [inB]
theorem isF_small {n d : Int} (h : isF n d = true) : Small n d := by
  simp only [isF, Bool.and_eq_true, decide_eq_true_eq, inB_iff] at h
  exact ⟨by omega, by omega, by omega, by omega⟩
def badL (n d : Int) : Bool := decide (d = 0) || (!inB n 549755813888 || !inB d 549755813888)
def lowestR (n d : Int) : FE := if badL n d = true then ⟨0, 0, 1⟩ else if 4194304 < loD n d then ⟨0, 0, 3⟩ else ⟨loN n d, loD n d, 0⟩

/-- an order and an error -/
def compareR (a b c d : Int) : Int × Int := if (isF a b && isF c d) = true then (ordF a b c d, 0) else (0, 1)
end Go.Proofs.Ytcmjmdjhpmlomaa
