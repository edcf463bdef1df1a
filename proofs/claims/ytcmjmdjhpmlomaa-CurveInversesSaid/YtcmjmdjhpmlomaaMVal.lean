
/- Plain facts of values: where the first knot lies that is not before x. -/
import Derived.Test.YtcmjmdjhpmlomaaVal
import Derived.Test.YtcmjmdjhpmlomaaRefFrac
namespace Go.Proofs.Ytcmjmdjhpmlomaa
open Go.RowKit

theorem firstPc_eq {ks : List (Int × Int)} {p : Nat → Bool} {i : Nat} (hi : i + 1 < ks.length) (hp : p i = true) (hb : ∀ j, j < i → p j = false) : firstPc ks p = some i := by
  unfold firstPc
  rw [List.find?_range_eq_some]
  refine ⟨hp, ?_, fun j hj => by simp [hb j hj]⟩
  simp [pcN]; omega
theorem firstPc_none_of {ks : List (Int × Int)} {p : Nat → Bool} (hb : ∀ j, j + 1 < ks.length → p j = false) : firstPc ks p = none := by
  unfold firstPc
  rw [List.find?_eq_none]
  intro j hj
  have := List.mem_range.1 hj
  unfold pcN at this
  simp [hb j (by omega)]
theorem lo_whole {a r : Int} (h : 0 < r) : loN (a * r) r = a ∧ loD (a * r) r = 1 := by
  obtain ⟨h1, h2⟩ := lo_pos (n := a * r) h
  have e : (Int.gcd (a * r) r : Int) = r := by
    rw [Int.gcd_mul_left_left]; omega
  rw [h1, h2, e]
  exact ⟨Int.mul_tdiv_cancel _ (by omega), Int.tdiv_self (by omega)⟩
theorem lo_prime {a r : Int} (h : 0 < r) (hg : Int.gcd a r = 1) : loN a r = a ∧ loD a r = r := by
  obtain ⟨h1, h2⟩ := lo_pos (n := a) h
  rw [h1, h2, hg]
  simp
theorem lo_plus {a r n : Int} (h : 0 < r) (hg : Int.gcd a r = 1) : loN (a + n * r) r = a + n * r ∧ loD (a + n * r) r = r := by
  apply lo_prime h
  rw [Int.gcd_add_mul_right_left]; exact hg
/-- i is the first knot that is not before x -/
structure FirstAt (ks : List (Int × Int)) (x : Int) (i : Nat) : Prop where
  lt : i < ks.length
  ge : x ≤ kx ks i
  before : ∀ j, j < i → kx ks j < x
theorem lnOf_first {ks : List (Int × Int)} {x : Int} {i : Nat} (h : FirstAt ks x i) (hi : 0 < i) : lnOf ks x x = ⟨kx ks (i - 1), ky ks (i - 1), ky ks i - ky ks (i - 1), kx ks i - kx ks (i - 1)⟩ := by
  obtain ⟨h1, h2, h3⟩ := h
  obtain ⟨k, rfl⟩ : ∃ k, i = k + 1 := ⟨i - 1, by omega⟩
  have e : firstPc ks (inPc ks x x) = some k := by
    apply firstPc_eq h1
    · have := h3 k (by omega)
      simp [inPc, h2]; omega
    · intro j hj
      have := h3 (j + 1) (by omega)
      simp [inPc]; omega
  unfold lnOf
  rw [e]
  rfl
theorem val_first {ks : List (Int × Int)} {x : Int} {i : Nat} (hup : ∀ i j, i < j → j < ks.length → kx ks i < kx ks j) (h : FirstAt ks x i) (hlo : kx ks 0 ≤ x) :
    (kx ks i = x → valN ks x = ky ks i ∧ valD ks x = 1) ∧ (kx ks i ≠ x → 0 < i ∧ kx ks (i - 1) < x ∧ x < kx ks i ∧ valN ks x = loN (ky ks (i - 1) * (kx ks i - kx ks (i - 1)) + (ky ks i - ky ks (i - 1)) * (x - kx ks (i - 1))) (kx ks i - kx ks (i - 1)) ∧ valD ks x = loD (ky ks (i - 1) * (kx ks i - kx ks (i - 1)) + (ky ks i - ky ks (i - 1)) * (x - kx ks (i - 1))) (kx ks i - kx ks (i - 1))) := by
  by_cases hi : 0 < i
  · have e := lnOf_first h hi
    have hlt := hup (i - 1) i (by omega) h.lt
    have hb := h.before (i - 1) (by omega)
    unfold valN valD
    rw [e]
    refine ⟨fun hx => ?_, fun hx => ⟨hi, hb, by have := h.ge; omega, rfl, rfl⟩⟩
    have e2 : (⟨kx ks (i - 1), ky ks (i - 1), ky ks i - ky ks (i - 1), kx ks i - kx ks (i - 1)⟩ : Ln).num x = ky ks i * (kx ks i - kx ks (i - 1)) := by
      unfold Ln.num
      rw [← hx]
      show ky ks (i - 1) * (kx ks i - kx ks (i - 1)) + (ky ks i - ky ks (i - 1)) * (kx ks i - kx ks (i - 1)) = _
      rw [← Int.add_mul]
      congr 1
      omega
    rw [e2]
    exact lo_whole (by show 0 < kx ks i - kx ks (i - 1); omega)
  · obtain rfl : i = 0 := by omega
    have hx : kx ks 0 = x := by have := h.ge; omega
    refine ⟨fun _ => ?_, fun hn => absurd hx hn⟩
    by_cases hl : 1 < ks.length
    · have e : firstPc ks (inPc ks x x) = some 0 := by
        apply firstPc_eq hl
        · have := hup 0 1 (by omega) hl
          simp [inPc]; omega
        · intro j hj; omega
      have hlt := hup 0 1 (by omega) hl
      unfold valN valD lnOf
      rw [e]
      have e2 : (lnAt ks (some 0)).num x = ky ks 0 * (kx ks 1 - kx ks 0) := by
        unfold Ln.num lnAt
        simp [hx]
      rw [e2]
      exact lo_whole (by omega)
    · have e : firstPc ks (inPc ks x x) = none := firstPc_none_of (fun j hj => by omega)
      unfold valN valD lnOf
      rw [e]
      have e2 : (lnAt ks none).num x = ky ks 0 * 1 := by
        unfold Ln.num lnAt
        simp
      rw [e2]
      exact lo_whole (by decide)
end Go.Proofs.Ytcmjmdjhpmlomaa
