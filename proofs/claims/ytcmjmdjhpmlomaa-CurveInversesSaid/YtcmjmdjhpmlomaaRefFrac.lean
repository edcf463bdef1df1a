
/- The contracts of the reference's fractions. -/
import Derived.Test.YtcmjmdjhpmlomaaLowest
namespace Go.Proofs.Ytcmjmdjhpmlomaa
open Go.RowKit

/-! plain -/
theorem lo_mul {n d : Int} : loN n d * sg n d = n ∧ loD n d * sg n d = d := by
  have h1 : sg n d ∣ n := by unfold sg; split <;> simp [Int.neg_dvd, Int.gcd_dvd_left]
  have h2 : sg n d ∣ d := by unfold sg; split <;> simp [Int.neg_dvd, Int.gcd_dvd_right]
  exact ⟨Int.tdiv_mul_cancel h1, Int.tdiv_mul_cancel h2⟩
theorem sg_abs {n d : Int} : (sg n d).natAbs = Int.gcd n d := by unfold sg; split <;> simp
theorem lo_gcd {n d : Int} (h : d ≠ 0) : Int.gcd (loN n d) (loD n d) = 1 := by
  have h1 := Int.gcd_mul_right (loN n d) (sg n d) (loD n d)
  rw [lo_mul.1, lo_mul.2, sg_abs] at h1
  have h2 : 0 < Int.gcd n d := by have := Int.gcd_ne_zero_right (a := n) h; omega
  exact Nat.eq_of_mul_eq_mul_right h2 (by omega)
theorem loD_pos' {n d : Int} (h : d ≠ 0) : 0 < loD n d := by
  have h1 : loD n d * sg n d = d := lo_mul.2
  by_cases hd : d < 0
  · have : sg n d < 0 := by have := Int.gcd_ne_zero_right (a := n) h; unfold sg; rw [if_pos hd]; omega
    rcases Int.lt_trichotomy (loD n d) 0 with h2 | h2 | h2
    · have := Int.mul_pos_of_neg_of_neg h2 this; omega
    · rw [h2] at h1; omega
    · exact h2
  · have : 0 < sg n d := by have := Int.gcd_ne_zero_right (a := n) h; unfold sg; rw [if_neg hd]; omega
    rcases Int.lt_trichotomy (loD n d) 0 with h2 | h2 | h2
    · have := Int.mul_neg_of_neg_of_pos h2 this; omega
    · rw [h2] at h1; omega
    · exact h2
theorem isF_lo {n d : Int} (h : d ≠ 0) (hn : inB n 549755813888 = true) : isF (loN n d) (loD n d) = decide (loD n d ≤ 4194304) := by
  obtain ⟨h1, h2⟩ := inB_iff.1 hn
  have h3 := loN_bd (d := d) h1 h2
  have h4 := loD_pos' (n := n) h
  unfold isF
  rw [lo_gcd h, inB_iff.2 h3, decide_eq_true (show 1 ≤ loD n d by omega)]
  simp
theorem lo_pos {n d : Int} (h : 0 < d) : loN n d = n.tdiv (Int.gcd n d) ∧ loD n d = d.tdiv (Int.gcd n d) := by
  unfold loN loD sg; rw [if_neg (by omega)]; exact ⟨rfl, rfl⟩
theorem lo_neg {n d : Int} (h : d < 0) : loN (-n) (-d) = loN n d ∧ loD (-n) (-d) = loD n d := by
  have e : Int.gcd (-n) (-d) = Int.gcd n d := by simp [Int.neg_gcd, Int.gcd_neg]
  unfold loN loD sg
  rw [if_neg (by omega), if_pos h, e]
  simp [Int.neg_tdiv, Int.tdiv_neg]

end Go.Proofs.Ytcmjmdjhpmlomaa
