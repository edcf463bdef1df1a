
/- The contracts of lineOver, value and around. -/
import Derived.Test.YtcmjmdjhpmlomaaFind
namespace Go.Proofs.Ytcmjmdjhpmlomaa
open Go.RowKit Go.Shelf

/-! plain: bounds of a valid curve's knots, by number -/
theorem kx_eq {ks : List (Int × Int)} {i : Nat} (h : i < ks.length) : kx ks i = ks[i].1 := by simp [kx, h]
theorem ky_eq {ks : List (Int × Int)} {i : Nat} (h : i < ks.length) : ky ks i = ks[i].2 := by simp [ky, h]
theorem Vd.kx0 {ks err} (v : Vd ks err) {i : Nat} (h : i < ks.length) : 0 ≤ kx ks i := by rw [kx_eq h]; exact v.x0 i h
theorem Vd.kx1 {ks err} (v : Vd ks err) {i : Nat} (h : i < ks.length) : kx ks i ≤ 2000 := by rw [kx_eq h]; exact v.x1 i h
theorem Vd.ky0 {ks err} (v : Vd ks err) {i : Nat} (h : i < ks.length) : -65536 ≤ ky ks i := by rw [ky_eq h]; exact v.y0 i h
theorem Vd.ky1 {ks err} (v : Vd ks err) {i : Nat} (h : i < ks.length) : ky ks i ≤ 65536 := by rw [ky_eq h]; exact v.y1 i h
theorem Vd.klt {ks err} (v : Vd ks err) {i j : Nat} (hij : i < j) (h : j < ks.length) : kx ks i < kx ks j := by rw [kx_eq h, kx_eq (by omega)]; exact v.lt hij h

theorem firstPc_lt {ks : List (Int × Int)} {p : Nat → Bool} {i : Nat} (h : firstPc ks p = some i) : i + 1 < ks.length := by
  have := List.mem_of_find?_eq_some h
  have := List.mem_range.1 this
  unfold pcN at this
  omega
theorem firstPc_p {ks : List (Int × Int)} {p : Nat → Bool} {i : Nat} (h : firstPc ks p = some i) : p i = true := List.find?_some h

/-- the line on which a curve lies -/
structure Ln where
  x0 : Int
  y0 : Int
  ri : Int
  ru : Int
def inPc (ks : List (Int × Int)) (lo hi : Int) (i : Nat) : Bool := decide (kx ks i ≤ lo) && decide (hi ≤ kx ks (i + 1))
def lnAt (ks : List (Int × Int)) : Option Nat → Ln
  | some i => ⟨kx ks i, ky ks i, ky ks (i + 1) - ky ks i, kx ks (i + 1) - kx ks i⟩
  | none => ⟨kx ks 0, ky ks 0, 0, 1⟩
def lnOf (ks : List (Int × Int)) (lo hi : Int) : Ln := lnAt ks (firstPc ks (inPc ks lo hi))
def Ln.num (l : Ln) (x : Int) : Int := l.y0 * l.ru + l.ri * (x - l.x0)

theorem Vd.lnOk {ks err} (v : Vd ks err) (lo hi : Int) : LineOk (lnOf ks lo hi).x0 (lnOf ks lo hi).y0 (lnOf ks lo hi).ri (lnOf ks lo hi).ru := by
  unfold lnOf
  cases h : firstPc ks (inPc ks lo hi) with
  | none =>
    have hp := v.pos
    have := v.kx0 hp; have := v.kx1 hp; have := v.ky0 hp; have := v.ky1 hp
    exact ⟨by simp [lnAt]; omega, by simp [lnAt]; omega, by simp [lnAt]; omega, by simp [lnAt]; omega, by simp [lnAt], by simp [lnAt], by simp [lnAt], by simp [lnAt]⟩
  | some i =>
    have hi := firstPc_lt h
    have hi' : i < ks.length := by omega
    have := v.kx0 hi'; have := v.kx1 hi'; have := v.ky0 hi'; have := v.ky1 hi'
    have := v.kx0 hi; have := v.kx1 hi; have := v.ky0 hi; have := v.ky1 hi
    have := v.klt (Nat.lt_succ_self i) hi
    exact ⟨by simp [lnAt]; omega, by simp [lnAt]; omega, by simp [lnAt]; omega, by simp [lnAt]; omega, by simp [lnAt]; omega, by simp [lnAt]; omega, by simp [lnAt]; omega, by simp [lnAt]; omega⟩

/-! values -/
def valN (ks : List (Int × Int)) (x : Int) : Int := loN ((lnOf ks x x).num x) (lnOf ks x x).ru
def valD (ks : List (Int × Int)) (x : Int) : Int := loD ((lnOf ks x x).num x) (lnOf ks x x).ru

/-! the values are small fractions -/
theorem dvd_bd {a b B : Int} (hb : 0 < b) (h : a.natAbs ≤ B.natAbs) (hB : 0 ≤ B) : -B ≤ a ∧ a ≤ B := by omega
theorem loD_pos {n d : Int} (h : 0 < d) : 0 < loD n d ∧ loD n d ≤ d := by
  have hg : sg n d = (Int.gcd n d : Int) := by unfold sg; rw [if_neg (by omega)]
  have hd : (Int.gcd n d : Int) ∣ d := Int.gcd_dvd_right ..
  have hg0 : 0 < (Int.gcd n d : Int) := by have := Int.gcd_ne_zero_right (a := n) (b := d) (by omega); omega
  unfold loD
  rw [hg, Int.tdiv_eq_ediv_of_nonneg (by omega)]
  exact ⟨Int.ediv_pos_of_pos_of_dvd h (by omega) hd, Int.ediv_le_self _ (by omega)⟩
theorem Vd.numBd {ks err} (v : Vd ks err) {lo hi x : Int} (h0 : -4000 ≤ x) (h1 : x ≤ 4000) : -2400000000 ≤ (lnOf ks lo hi).num x ∧ (lnOf ks lo hi).num x ≤ 2400000000 := by
  obtain ⟨a1, a2, b1, b2, c1, c2, d1, d2⟩ := v.lnOk lo hi
  obtain ⟨p1, p2⟩ := mul_bd b1 b2 (show -4000 ≤ (lnOf ks lo hi).ru by omega) d2
  obtain ⟨p3, p4⟩ := mul_bd c1 c2 (show -8000 ≤ x - (lnOf ks lo hi).x0 by omega) (by omega)
  unfold Ln.num
  omega
/-- num and den of a value -/
structure Fr (n d : Int) : Prop where
  n1 : -2400000000 ≤ n
  n2 : n ≤ 2400000000
  d1 : 0 < d
  d2 : d ≤ 4000
theorem Vd.fr {ks err} (v : Vd ks err) {x : Int} (h0 : -4000 ≤ x) (h1 : x ≤ 4000) : Fr (valN ks x) (valD ks x) := by
  have h := v.numBd (lo := x) (hi := x) h0 h1
  have h2 := loN_bd (d := (lnOf ks x x).ru) h.1 h.2
  have h3 := loD_pos (n := (lnOf ks x x).num x) (v.lnOk x x).d1
  have h4 := (v.lnOk x x).d2
  exact ⟨h2.1, h2.2, h3.1, by unfold valD; omega⟩
theorem Fr.small {n d : Int} (h : Fr n d) : Small n d := ⟨by have := h.n1; omega, by have := h.n2; omega, by have := h.d1; omega, by have := h.d2; omega⟩
theorem Fr.plus {n d e : Int} (h : Fr n d) (h0 : -4000 ≤ e) (h1 : e ≤ 4000) : Small (n + e * d) d := by
  obtain ⟨a, b, c, g⟩ := h
  obtain ⟨p, q⟩ := mul_bd h0 h1 (show -4000 ≤ d by omega) g
  exact ⟨by omega, by omega, by omega, by omega⟩

end Go.Proofs.Ytcmjmdjhpmlomaa
