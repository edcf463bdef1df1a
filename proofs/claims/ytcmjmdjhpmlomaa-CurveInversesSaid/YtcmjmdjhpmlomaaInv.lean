
/- The contracts of rising, heights, inverse, Inverse. -/
import Derived.Test.YtcmjmdjhpmlomaaVals
namespace Go.Proofs.Ytcmjmdjhpmlomaa
open Go.RowKit

def riseK (ks : List (Int × Int)) (i : Nat) : Int := ky ks (i + 1) - ky ks i
def runK (ks : List (Int × Int)) (i : Nat) : Int := kx ks (i + 1) - kx ks i
def notUp (ks : List (Int × Int)) (i : Nat) : Bool := decide (riseK ks i ≤ 0)
def notDown (ks : List (Int × Int)) (i : Nat) : Bool := decide (0 ≤ riseK ks i)
def wayK (ks : List (Int × Int)) : Int :=
  match firstPc ks (notUp ks) with
  | none => 1
  | some _ => match firstPc ks (notDown ks) with
    | none => -1
    | some _ => 0

theorem Vd.pc {ks err} (v : Vd ks err) {i : Nat} (h : i + 1 < ks.length) : (-65536 ≤ ky ks i ∧ ky ks i ≤ 65536) ∧ (-65536 ≤ ky ks (i + 1) ∧ ky ks (i + 1) ≤ 65536) ∧ (0 ≤ kx ks i ∧ kx ks i < kx ks (i + 1) ∧ kx ks (i + 1) ≤ 2000) := by
  have hi : i < ks.length := by omega
  exact ⟨⟨v.ky0 hi, v.ky1 hi⟩, ⟨v.ky0 h, v.ky1 h⟩, v.kx0 hi, v.klt (Nat.lt_succ_self i) h, v.kx1 h⟩

/-! the least and the greatest value -/
def hLo (ks : List (Int × Int)) : Int := min (ky ks 0) (ky ks (ks.length - 1))
def hHi (ks : List (Int × Int)) : Int := max (ky ks 0) (ky ks (ks.length - 1))

theorem firstPc_no {ks : List (Int × Int)} {p : Nat → Bool} (h : firstPc ks p = none) {i : Nat} (hi : i + 1 < ks.length) : p i = false := by
  unfold firstPc at h
  rw [List.find?_eq_none] at h
  have := h i (List.mem_range.2 (by unfold pcN; omega))
  simpa using this
theorem way_ne {ks : List (Int × Int)} (h : wayK ks ≠ 0) {i : Nat} (hi : i + 1 < ks.length) : riseK ks i ≠ 0 := by
  unfold wayK at h
  split at h
  · rename_i h1
    have := firstPc_no h1 hi
    simp [notUp] at this
    omega
  · split at h
    · rename_i h1
      have := firstPc_no h1 hi
      simp [notDown] at this
      omega
    · exact absurd rfl h

def atV (ks : List (Int × Int)) (y : Int) (i : Nat) : Bool := decide (min (ky ks i) (ky ks (i + 1)) ≤ y) && decide (y ≤ max (ky ks i) (ky ks (i + 1)))
def invK (ks : List (Int × Int)) (y : Int) (i : Nat) : Int := kx ks i * riseK ks i + (y - ky ks i) * runK ks i
def invOf (ks : List (Int × Int)) (y : Int) : Int × Int :=
  match firstPc ks (atV ks y) with
  | none => (loN (kx ks 0) 1, loD (kx ks 0) 1)
  | some i => (loN (invK ks y i) (riseK ks i), loD (invK ks y i) (riseK ks i))

end Go.Proofs.Ytcmjmdjhpmlomaa
