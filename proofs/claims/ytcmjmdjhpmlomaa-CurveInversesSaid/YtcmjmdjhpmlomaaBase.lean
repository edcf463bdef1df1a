
/- Words for layer 1's walks: fractions, curves in memory, what is kept below a block. Nothing of the program is named. -/
import Derived.WalkKit
import Derived.WalkSpells
import Derived.WalkLawsBesides
import Derived.IntWalk
import Derived.Lib.Hide
import Derived.Deep.RegionHeld3
import Derived.Deep.QuietTactic
import Derived.BigQuiet
import Derived.RegionTactic
import Derived.ChangeAlike
import Derived.Test.YtcmjmdjhpmlomaaQuiet
namespace Go.Proofs.Ytcmjmdjhpmlomaa
open Go.RowKit

/-! ### plain words -/
def inB (n m : Int) : Bool := decide (-m ≤ n) && decide (n ≤ m)
def cmpI (x y : Int) : Int := if x < y then -1 else if y < x then 1 else 0
/-- the divisor with the denominator's sign -/
def sg (n d : Int) : Int := if d < 0 then -(Int.gcd n d : Int) else Int.gcd n d
def loN (n d : Int) : Int := n.tdiv (sg n d)
def loD (n d : Int) : Int := d.tdiv (sg n d)
def ordF (a b c d : Int) : Int := cmpI (a * d) (c * b)

theorem sg_ne {n d : Int} (h : d ≠ 0) : sg n d ≠ 0 := by
  unfold sg
  have : Int.gcd n d ≠ 0 := by simp [Int.gcd_eq_zero_iff, h]
  split <;> omega

theorem gcd_bd {n d B : Int} (hd0 : d ≠ 0) (hd : -B ≤ d) (hd2 : d ≤ B) : 0 < (Int.gcd n d : Int) ∧ (Int.gcd n d : Int) ≤ B := by
  have h1 : Int.gcd n d ≠ 0 := by simp [Int.gcd_eq_zero_iff, hd0]
  have h2 : Int.gcd n d ≤ d.natAbs := Nat.le_of_dvd (by omega) (Int.gcd_dvd_natAbs_right n d)
  omega
theorem tdiv_bd {a b B : Int} (h1 : -B ≤ a) (h2 : a ≤ B) : -B ≤ a.tdiv b ∧ a.tdiv b ≤ B := by
  have h := Int.natAbs_tdiv_le_natAbs a b
  omega
theorem gcd_step (p q : Int) : Int.gcd (q.tmod p) p = Int.gcd p q := by
  rw [Int.gcd_comm p q]
  rw [Int.tmod_def, Int.mul_comm p, Int.gcd_sub_mul_right_left]

theorem mul_bd {a b A B : Int} (h1 : -A ≤ a) (h2 : a ≤ A) (h3 : -B ≤ b) (h4 : b ≤ B) : -(A * B) ≤ a * b ∧ a * b ≤ A * B := by
  have ha : a.natAbs ≤ A.toNat := by omega
  have hb : b.natAbs ≤ B.toNat := by omega
  have h := Nat.mul_le_mul ha hb
  rw [← Int.natAbs_mul] at h
  have e : ((A.toNat * B.toNat : Nat) : Int) = A * B := by
    rw [Int.natCast_mul, Int.toNat_of_nonneg (by omega), Int.toNat_of_nonneg (by omega)]
  omega

theorem bcell {W w1 : World} (hb : Below W.heap.size W w1) : (∀ b o, b < W.heap.size → w1.cell? ⟨b, o, none⟩ = W.cell? ⟨b, o, none⟩) ∧ (∀ b o, b < W.heap.size → w1.frozen? ⟨b, o, none⟩ = W.frozen? ⟨b, o, none⟩) :=
  ⟨fun b o h => hb.cell (p := ⟨b, o, none⟩) h, fun b o h => hb.frozen (p := ⟨b, o, none⟩) h⟩

theorem ret_int {k : IntKind} {a b : Int} (h : a = b) : Ending.returned (.int k a) = .returned (.int k b) := by rw [h]
theorem ret_bool {a b : Bool} (h : a = b) : Ending.returned (.bool a) = .returned (.bool b) := by rw [h]
theorem ret_frac {a b c d : Int} (h : a = b) (h' : c = d) : Ending.returned (.agg #[.int .i64 a, .int .i64 c]) = .returned (.agg #[.int .i64 b, .int .i64 d]) := by rw [h, h']

end Go.Proofs.Ytcmjmdjhpmlomaa
