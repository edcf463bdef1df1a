/- Plain facts of layer 5: courses. No walk, no number of a function. -/
import Derived.Test.YtjlpoomjgidgaaaNq
namespace Go.Proofs.Ytjlpoomjgidgaaa
def inB (n lo hi : Int) : Bool := decide (lo ≤ n) && decide (n ≤ hi)
def atI (l : List Int) (i : Nat) : Int := l[i]?.getD default
def atH (l : List Ho) (i : Nat) : Ho := l[i]?.getD default
def atM (l : List Mv) (i : Nat) : Mv := l[i]?.getD default
/-- the masses of holder i, of movement k lie in their spans -/
def fitI (hs : List Ho) (ss es : List Int) (i : Nat) : Bool := inB (atI ss i) (atH hs i).sl (atH hs i).sh && inB (atI es i) (atH hs i).el (atH hs i).eh
def fitM (ms : List Mv) (xs : List Int) (k : Nat) : Bool := inB (atI xs k) (atM ms k).lo (atM ms k).hi
/-- what movement k brings to a holder, less what it takes -/
def mvd (ms : List Mv) (xs : List Int) (id : Int) (k : Nat) : Int := (if (atM ms k).to = id then atI xs k else 0) - (if (atM ms k).fr = id then atI xs k else 0)
def heldTo (hs : List Ho) (ms : List Mv) (ss xs : List Int) (i k : Nat) : Int := atI ss i + sumF (mvd ms xs (atH hs i).id) (List.range k)
def lensB (hs : List Ho) (ms : List Mv) (ss es xs : List Int) : Bool := decide (ss.length = hs.length) && (decide (es.length = hs.length) && decide (xs.length = ms.length))
def allB (n : Nat) (f : Nat → Bool) : Bool := (List.range n).all f
theorem allB_yes {n : Nat} {f : Nat → Bool} (h : ∀ i, i < n → f i = true) : allB n f = true := List.all_eq_true.2 fun i hi => h i (List.mem_range.1 hi)
theorem allB_no {n : Nat} {f : Nat → Bool} {i : Nat} (hi : i < n) (h : f i = false) : allB n f = false := List.all_eq_false.2 ⟨i, List.mem_range.2 hi, by simp [h]⟩
theorem allB_at {n : Nat} {f : Nat → Bool} (h : allB n f = true) {i : Nat} (hi : i < n) : f i = true := List.all_eq_true.1 h i (List.mem_range.2 hi)
/-- whether a course is one of a checked trade -/
def fits (hs : List Ho) (ms : List Mv) (ss es xs : List Int) : Bool := lensB hs ms ss es xs && (allB hs.length (fitI hs ss es) && (allB ms.length (fitM ms xs) && allB hs.length fun i => decide (heldTo hs ms ss xs i ms.length = atI es i)))
theorem heldTo_succ (hs : List Ho) (ms : List Mv) (ss xs : List Int) (i k : Nat) : heldTo hs ms ss xs i (k + 1) = heldTo hs ms ss xs i k + mvd ms xs (atH hs i).id k := by
  unfold heldTo
  rw [List.range_succ, sumF_snoc, Int.add_assoc]
theorem mvd_bd {ms : List Mv} {xs : List Int} {id : Int} {k : Nat} (h : 0 ≤ atI xs k ∧ atI xs k ≤ 65536) : -65536 ≤ mvd ms xs id k ∧ mvd ms xs id k ≤ 65536 := by
  unfold mvd
  by_cases a : (atM ms k).to = id <;> by_cases b : (atM ms k).fr = id <;> simp only [a, b, if_true, if_false] <;> omega
theorem sum_range_bd {f : Nat → Int} {n : Nat} (h : ∀ i, i < n → -65536 ≤ f i ∧ f i ≤ 65536) : -(65536 * (n : Int)) ≤ sumF f (List.range n) ∧ sumF f (List.range n) ≤ 65536 * (n : Int) := by
  have := sumF_bd (f := f) (xs := List.range n) fun i hi => h i (List.mem_range.1 hi)
  rwa [List.length_range] at this
end Go.Proofs.Ytjlpoomjgidgaaa
