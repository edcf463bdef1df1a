/- Plain facts of high and low waters. No walk. -/
import Derived.Test.YtekpffjcffeanaaWq
namespace Go.Proofs.Ytekpffjcffeanaa

/-- is a above b, or beneath it? -/
def bey (b : Bool) (x y : Int) : Bool := if b = true then decide (y < x) else decide (x < y)
/-- is stand i one that goes beyond both of its neighbours? -/
def turnB (l : List Sd) (b : Bool) (i : Nat) : Bool := decide (1 ≤ i) && (decide (i + 1 < l.length) && (bey b (nthD l i).ht (nthD l (i - 1)).ht && bey b (nthD l i).ht (nthD l (i + 1)).ht))
def turnS (l : List Sd) (b : Bool) (k : Nat) : List Sd := ((List.range k).filter (turnB l b)).map (nthD l)
section
variable {f : Nat → Int} {lo : Int}
/-- what holds of a list of stands that ends with minute lo + m -/
structure Stl (f : Nat → Int) (lo : Int) (m : Nat) (l : List Sd) : Prop where
  ne : l ≠ []
  first : (nthD l 0).lo = lo
  last : (nthD l (l.length - 1)).hi = lo + (m : Int)
  one : ∀ i, i < l.length → lo ≤ (nthD l i).lo ∧ (nthD l i).lo ≤ (nthD l i).hi ∧ (nthD l i).hi ≤ lo + (m : Int) ∧ ∀ k : Nat, (nthD l i).lo ≤ lo + (k : Int) → lo + (k : Int) ≤ (nthD l i).hi → f k = (nthD l i).ht
  two : ∀ i, i + 1 < l.length → (nthD l (i + 1)).lo = (nthD l i).hi + 1 ∧ (nthD l (i + 1)).ht ≠ (nthD l i).ht
end
end Go.Proofs.Ytekpffjcffeanaa
