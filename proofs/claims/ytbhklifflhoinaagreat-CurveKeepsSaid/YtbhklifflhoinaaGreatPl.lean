/- Plain facts of layer 1: fractions, curves, values, corners, peaks, inverses. No walk, no number of a function. -/
import Derived.WalkKit
import Derived.Below
import Derived.Sort.OwnSortedInts
import Derived.Lib.SlicesCompact
namespace Go.Proofs.YtbhklifflhoinaaGreat
open Go.RowKit

/-! ### plain words -/
def inB (n m : Int) : Bool := decide (-m ≤ n) && decide (n ≤ m)
def cmpI (x y : Int) : Int := if x < y then -1 else if y < x then 1 else 0
/-- the divisor with the denominator's sign -/
def sg (n d : Int) : Int := if d < 0 then -(Int.gcd n d : Int) else Int.gcd n d
def loN (n d : Int) : Int := n.tdiv (sg n d)
def loD (n d : Int) : Int := d.tdiv (sg n d)
def ordF (a b c d : Int) : Int := cmpI (a * d) (c * b)
theorem sg_ne {n d : Int} (h : d ≠ 0) : sg n d ≠ 0 := by
  unfold sg
  have : Int.gcd n d ≠ 0 := by simp [Int.gcd_eq_zero_iff, h]
  split <;> omega
theorem gcd_bd {n d B : Int} (hd0 : d ≠ 0) (hd : -B ≤ d) (hd2 : d ≤ B) : 0 < (Int.gcd n d : Int) ∧ (Int.gcd n d : Int) ≤ B := by
  have h1 : Int.gcd n d ≠ 0 := by simp [Int.gcd_eq_zero_iff, hd0]
  have h2 : Int.gcd n d ≤ d.natAbs := Nat.le_of_dvd (by omega) (Int.gcd_dvd_natAbs_right n d)
  omega
theorem tdiv_bd {a b B : Int} (h1 : -B ≤ a) (h2 : a ≤ B) : -B ≤ a.tdiv b ∧ a.tdiv b ≤ B := by
  have h := Int.natAbs_tdiv_le_natAbs a b
  omega
theorem gcd_step (p q : Int) : Int.gcd (q.tmod p) p = Int.gcd p q := by
  rw [Int.gcd_comm p q]
  rw [Int.tmod_def, Int.mul_comm p, Int.gcd_sub_mul_right_left]
theorem mul_bd {a b A B : Int} (h1 : -A ≤ a) (h2 : a ≤ A) (h3 : -B ≤ b) (h4 : b ≤ B) : -(A * B) ≤ a * b ∧ a * b ≤ A * B := by
  have ha : a.natAbs ≤ A.toNat := by omega
  have hb : b.natAbs ≤ B.toNat := by omega
  have h := Nat.mul_le_mul ha hb
  rw [← Int.natAbs_mul] at h
  have e : ((A.toNat * B.toNat : Nat) : Int) = A * B := by
    rw [Int.natCast_mul, Int.toNat_of_nonneg (by omega), Int.toNat_of_nonneg (by omega)]
  omega
/-! cmp -/
/-- the products do not wrap -/
structure Small (a b : Int) : Prop where
  n1 : -1099511627776 ≤ a
  n2 : a ≤ 1099511627776
  d1 : -4194304 ≤ b
  d2 : b ≤ 4194304
theorem Small.mul {a b c d : Int} (h1 : Small a b) (h2 : Small c d) : -4611686018427387904 ≤ a * d ∧ a * d ≤ 4611686018427387904 :=
  mul_bd h1.n1 h1.n2 h2.d1 h2.d2
theorem Small.den {a b c d : Int} (h1 : Small a b) (h2 : Small c d) : -17592186044416 ≤ b * d ∧ b * d ≤ 17592186044416 :=
  mul_bd h1.d1 h1.d2 h2.d1 h2.d2
/-! pieces and lines: (x0, y0) to (x1, y1) -/
/-- a line through (x0, y0), and a number: nothing wraps -/
structure LineOk (x0 y0 ri ru : Int) : Prop where
  a1 : -4000 ≤ x0
  a2 : x0 ≤ 4000
  b1 : -200000 ≤ y0
  b2 : y0 ≤ 200000
  c1 : -200000 ≤ ri
  c2 : ri ≤ 200000
  d1 : 0 < ru
  d2 : ru ≤ 4000
theorem loN_bd {n d B : Int} (h : -B ≤ n) (h2 : n ≤ B) : -B ≤ loN n d ∧ loN n d ≤ B := tdiv_bd h h2
/-- a fraction and an error -/
structure FE where
  n : Int
  d : Int
  e : Int
def FE.val (r : FE) : Value := .tuple #[.agg #[.int .i64 r.n, .int .i64 r.d], .int .i64 r.e]
/-- the slice at A holds the knots -/
def KnAt (w : World) (A : Option Addr) (ks : List (Int × Int)) : Prop :=
  ks ≠ [] → ∃ b off, A = some ⟨b, off, none⟩ ∧ b < w.heap.size ∧ ∀ i (h : i < ks.length), w.cell? ⟨b, off + i * 2, none⟩ = some (.int .i64 ks[i].1) ∧ w.cell? ⟨b, off + i * 2 + 1, none⟩ = some (.int .i64 ks[i].2)
theorem KnAt.below {w w' : World} {A : Option Addr} {ks : List (Int × Int)} (h : KnAt w A ks) (hb : Below w.heap.size w w') : KnAt w' A ks := fun hne => by
  obtain ⟨b, off, rfl, hlt, hc⟩ := h hne
  exact ⟨b, off, rfl, Nat.lt_of_lt_of_le hlt hb.size, fun i hi => ⟨(hb.cell (p := ⟨b, _, none⟩) hlt).trans (hc i hi).1, (hb.cell (p := ⟨b, _, none⟩) hlt).trans (hc i hi).2⟩⟩
def okFrom : Int → List (Int × Int) → Bool
  | _, [] => true
  | x, k :: r => decide (x < k.1) && decide (k.1 ≤ 2000) && inB k.2 65536 && okFrom k.1 r
def chk (ks : List (Int × Int)) (err : Int) : Int :=
  if 40 < ks.length then 2 else if ks.length = 0 ∨ err < 0 ∨ 4000 < err then 1 else if okFrom (-1) ks then 0 else 1
/-- the number that was met before -/
def before (ks : List (Int × Int)) (k : Nat) : Int := if k = 0 then -1 else ((ks[k - 1]?).getD (0, 0)).1
theorem okFrom_step {ks : List (Int × Int)} {k : Nat} (h : k < ks.length) :
    okFrom (before ks k) (ks.drop k) = (decide (before ks k < ks[k].1) && decide (ks[k].1 ≤ 2000) && inB ks[k].2 65536 && okFrom (before ks (k + 1)) (ks.drop (k + 1))) := by
  rw [List.drop_eq_getElem_cons h, okFrom]
  simp [before, h]
theorem chk_long {ks err} (h : 40 < ks.length) : chk ks err = 2 := by unfold chk; rw [if_pos h]
theorem chk_bad {ks err} (h : ¬ 40 < ks.length) (h2 : ks.length = 0 ∨ err < 0 ∨ 4000 < err) : chk ks err = 1 := by unfold chk; rw [if_neg h, if_pos h2]
theorem chk_ok {ks err} (h : ¬ 40 < ks.length) (h2 : ¬ (ks.length = 0 ∨ err < 0 ∨ 4000 < err)) : chk ks err = if okFrom (-1) ks then 0 else 1 := by unfold chk; rw [if_neg h, if_neg h2]
/-! valid curves -/
structure Vd (ks : List (Int × Int)) (err : Int) : Prop where
  ne : ks ≠ []
  le : ks.length ≤ 40
  e0 : 0 ≤ err
  e1 : err ≤ 4000
  ok : okFrom (-1) ks = true
theorem vd_of_chk {ks err} (h : chk ks err = 0) : Vd ks err := by
  unfold chk at h
  split at h
  · cases h
  split at h
  · cases h
  split at h
  · rename_i h1 h2 h3
    exact ⟨by rintro rfl; simp at h2, by omega, by omega, by omega, h3⟩
  · cases h
theorem Vd.chk {ks err} (h : Vd ks err) : chk ks err = 0 := by
  have h1 := h.le
  have h2 := h.e0
  have h3 := h.e1
  have h4 : ks.length ≠ 0 := by simpa using h.ne
  unfold Go.Proofs.YtbhklifflhoinaaGreat.chk
  rw [if_neg (by omega), if_neg (by omega), if_pos h.ok]
theorem okFrom_bd {x : Int} {ks : List (Int × Int)} (h : okFrom x ks = true) : ∀ i (hi : i < ks.length), x < ks[i].1 ∧ ks[i].1 ≤ 2000 ∧ -65536 ≤ ks[i].2 ∧ ks[i].2 ≤ 65536 ∧ ∀ j (hj : j < i), ks[j].1 < ks[i].1 := by
  induction ks generalizing x with
  | nil => intro i hi; simp at hi
  | cons k r ih =>
    simp only [okFrom, Bool.and_eq_true, decide_eq_true_eq, inB] at h
    obtain ⟨⟨⟨h1, h2⟩, h3, h4⟩, h5⟩ := h
    intro i hi
    cases i with
    | zero => exact ⟨h1, h2, h3, h4, fun j hj => by omega⟩
    | succ i =>
      have := ih h5 i (by simpa using hi)
      obtain ⟨a, b, c, d, e⟩ := this
      refine ⟨by simp; omega, by simpa using b, by simpa using c, by simpa using d, fun j hj => ?_⟩
      cases j with
      | zero => simpa using a
      | succ j => simpa using e j (by omega)
theorem Vd.x0 {ks err} (h : Vd ks err) (i : Nat) (hi : i < ks.length) : 0 ≤ ks[i].1 := by have := (okFrom_bd h.ok i hi).1; omega
theorem Vd.x1 {ks err} (h : Vd ks err) (i : Nat) (hi : i < ks.length) : ks[i].1 ≤ 2000 := (okFrom_bd h.ok i hi).2.1
theorem Vd.y0 {ks err} (h : Vd ks err) (i : Nat) (hi : i < ks.length) : -65536 ≤ ks[i].2 := (okFrom_bd h.ok i hi).2.2.1
theorem Vd.y1 {ks err} (h : Vd ks err) (i : Nat) (hi : i < ks.length) : ks[i].2 ≤ 65536 := (okFrom_bd h.ok i hi).2.2.2.1
theorem Vd.lt {ks err} (h : Vd ks err) {j i : Nat} (hj : j < i) (hi : i < ks.length) : ks[j].1 < ks[i].1 := (okFrom_bd h.ok i hi).2.2.2.2 j hj
theorem Vd.pos {ks err} (h : Vd ks err) : 0 < ks.length := by have := h.ne; cases ks <;> simp_all
/-- the first and the last X -/
def dLo (ks : List (Int × Int)) : Int := (ks[0]?.getD (0, 0)).1
def dHi (ks : List (Int × Int)) : Int := (ks[ks.length - 1]?.getD (0, 0)).1
/-! lists of curves -/
structure Cur where
  a : Option Addr
  cap : Nat
  ks : List (Int × Int)
  err : Int
/-- the slice at A holds the curves -/
structure CvAt (w : World) (A : Option Addr) (l : List Cur) : Prop where
  rows : l ≠ [] → ∃ b off, A = some ⟨b, off, none⟩ ∧ b < w.heap.size ∧ ∀ i (h : i < l.length), w.cell? ⟨b, off + i * 2, none⟩ = some (.slice l[i].a l[i].ks.length l[i].cap) ∧ w.cell? ⟨b, off + i * 2 + 1, none⟩ = some (.int .i64 l[i].err)
  each : ∀ i (h : i < l.length), KnAt w l[i].a l[i].ks ∧ l[i].ks.length ≤ 1000000000000
theorem CvAt.below {w w' : World} {A : Option Addr} {l : List Cur} (h : CvAt w A l) (hb : Below w.heap.size w w') : CvAt w' A l :=
  ⟨fun hne => by
    obtain ⟨b, off, rfl, hlt, hc⟩ := h.rows hne
    exact ⟨b, off, rfl, Nat.lt_of_lt_of_le hlt hb.size, fun i hi => ⟨(hb.cell (p := ⟨b, _, none⟩) hlt).trans (hc i hi).1, (hb.cell (p := ⟨b, _, none⟩) hlt).trans (hc i hi).2⟩⟩,
   fun i hi => ⟨(h.each i hi).1.below hb, (h.each i hi).2⟩⟩
def chkL : List Cur → Int
  | [] => 0
  | c :: r => if chk c.ks c.err = 0 then chkL r else chk c.ks c.err
theorem chkL_drop {l : List Cur} {k : Nat} (h : k < l.length) : chkL (l.drop k) = if chk l[k].ks l[k].err = 0 then chkL (l.drop (k + 1)) else chk l[k].ks l[k].err := by
  rw [List.drop_eq_getElem_cons h, chkL]
def chkSheaf (l : List Cur) : Int := if 12 < l.length then 2 else chkL l
/-- do all valid curves cover the span? -/
def covL (l : List Cur) (lo hi : Int) : Bool := l.all fun c => decide (dLo c.ks ≤ lo) && decide (hi ≤ dHi c.ks)
def chkOn (l : List Cur) (lo hi : Int) : Int := if hi < lo then 1 else if covL l lo hi then 0 else 3
theorem covL_drop {l : List Cur} {lo hi : Int} {k : Nat} (h : k < l.length) : covL (l.drop k) lo hi = ((decide (dLo l[k].ks ≤ lo) && decide (hi ≤ dHi l[k].ks)) && covL (l.drop (k + 1)) lo hi) := by
  unfold covL; rw [List.drop_eq_getElem_cons h, List.all_cons]
/-- number i of the pieces -/
def pcN (ks : List (Int × Int)) : Nat := ks.length - 1
def kx (ks : List (Int × Int)) (i : Nat) : Int := (ks[i]?.getD (0, 0)).1
def ky (ks : List (Int × Int)) (i : Nat) : Int := (ks[i]?.getD (0, 0)).2
theorem grownBy_of_below {A B : World} (h : Below A.heap.size A B) : A.grownBy B none := ⟨h.os, h.tape, h.output, h.size, fun k hk _ => h.block k hk⟩
/-- the first piece with p -/
def firstPc (ks : List (Int × Int)) (p : Nat → Bool) : Option Nat := (List.range (pcN ks)).find? p
/-! plain: bounds of a valid curve's knots, by number -/
theorem kx_eq {ks : List (Int × Int)} {i : Nat} (h : i < ks.length) : kx ks i = ks[i].1 := by simp [kx, h]
theorem ky_eq {ks : List (Int × Int)} {i : Nat} (h : i < ks.length) : ky ks i = ks[i].2 := by simp [ky, h]
theorem Vd.kx0 {ks err} (v : Vd ks err) {i : Nat} (h : i < ks.length) : 0 ≤ kx ks i := by rw [kx_eq h]; exact v.x0 i h
theorem Vd.kx1 {ks err} (v : Vd ks err) {i : Nat} (h : i < ks.length) : kx ks i ≤ 2000 := by rw [kx_eq h]; exact v.x1 i h
theorem Vd.ky0 {ks err} (v : Vd ks err) {i : Nat} (h : i < ks.length) : -65536 ≤ ky ks i := by rw [ky_eq h]; exact v.y0 i h
theorem Vd.ky1 {ks err} (v : Vd ks err) {i : Nat} (h : i < ks.length) : ky ks i ≤ 65536 := by rw [ky_eq h]; exact v.y1 i h
theorem Vd.klt {ks err} (v : Vd ks err) {i j : Nat} (hij : i < j) (h : j < ks.length) : kx ks i < kx ks j := by rw [kx_eq h, kx_eq (by omega)]; exact v.lt hij h
theorem firstPc_lt {ks : List (Int × Int)} {p : Nat → Bool} {i : Nat} (h : firstPc ks p = some i) : i + 1 < ks.length := by
  have := List.mem_of_find?_eq_some h
  have := List.mem_range.1 this
  unfold pcN at this
  omega
theorem firstPc_p {ks : List (Int × Int)} {p : Nat → Bool} {i : Nat} (h : firstPc ks p = some i) : p i = true := List.find?_some h
/-- the line on which a curve lies -/
structure Ln where
  x0 : Int
  y0 : Int
  ri : Int
  ru : Int
def inPc (ks : List (Int × Int)) (lo hi : Int) (i : Nat) : Bool := decide (kx ks i ≤ lo) && decide (hi ≤ kx ks (i + 1))
def lnAt (ks : List (Int × Int)) : Option Nat → Ln
  | some i => ⟨kx ks i, ky ks i, ky ks (i + 1) - ky ks i, kx ks (i + 1) - kx ks i⟩
  | none => ⟨kx ks 0, ky ks 0, 0, 1⟩
def lnOf (ks : List (Int × Int)) (lo hi : Int) : Ln := lnAt ks (firstPc ks (inPc ks lo hi))
def Ln.num (l : Ln) (x : Int) : Int := l.y0 * l.ru + l.ri * (x - l.x0)
theorem Vd.lnOk {ks err} (v : Vd ks err) (lo hi : Int) : LineOk (lnOf ks lo hi).x0 (lnOf ks lo hi).y0 (lnOf ks lo hi).ri (lnOf ks lo hi).ru := by
  unfold lnOf
  cases h : firstPc ks (inPc ks lo hi) with
  | none =>
    have hp := v.pos
    have := v.kx0 hp; have := v.kx1 hp; have := v.ky0 hp; have := v.ky1 hp
    exact ⟨by simp [lnAt]; omega, by simp [lnAt]; omega, by simp [lnAt]; omega, by simp [lnAt]; omega, by simp [lnAt], by simp [lnAt], by simp [lnAt], by simp [lnAt]⟩
  | some i =>
    have hi := firstPc_lt h
    have hi' : i < ks.length := by omega
    have := v.kx0 hi'; have := v.kx1 hi'; have := v.ky0 hi'; have := v.ky1 hi'
    have := v.kx0 hi; have := v.kx1 hi; have := v.ky0 hi; have := v.ky1 hi
    have := v.klt (Nat.lt_succ_self i) hi
    exact ⟨by simp [lnAt]; omega, by simp [lnAt]; omega, by simp [lnAt]; omega, by simp [lnAt]; omega, by simp [lnAt]; omega, by simp [lnAt]; omega, by simp [lnAt]; omega, by simp [lnAt]; omega⟩
/-! values -/
def valN (ks : List (Int × Int)) (x : Int) : Int := loN ((lnOf ks x x).num x) (lnOf ks x x).ru
def valD (ks : List (Int × Int)) (x : Int) : Int := loD ((lnOf ks x x).num x) (lnOf ks x x).ru
/-! the values are small fractions -/
theorem dvd_bd {a b B : Int} (hb : 0 < b) (h : a.natAbs ≤ B.natAbs) (hB : 0 ≤ B) : -B ≤ a ∧ a ≤ B := by omega
theorem loD_pos {n d : Int} (h : 0 < d) : 0 < loD n d ∧ loD n d ≤ d := by
  have hg : sg n d = (Int.gcd n d : Int) := by unfold sg; rw [if_neg (by omega)]
  have hd : (Int.gcd n d : Int) ∣ d := Int.gcd_dvd_right ..
  have hg0 : 0 < (Int.gcd n d : Int) := by have := Int.gcd_ne_zero_right (a := n) (b := d) (by omega); omega
  unfold loD
  rw [hg, Int.tdiv_eq_ediv_of_nonneg (by omega)]
  exact ⟨Int.ediv_pos_of_pos_of_dvd h (by omega) hd, Int.ediv_le_self _ (by omega)⟩
theorem Vd.numBd {ks err} (v : Vd ks err) {lo hi x : Int} (h0 : -4000 ≤ x) (h1 : x ≤ 4000) : -2400000000 ≤ (lnOf ks lo hi).num x ∧ (lnOf ks lo hi).num x ≤ 2400000000 := by
  obtain ⟨a1, a2, b1, b2, c1, c2, d1, d2⟩ := v.lnOk lo hi
  obtain ⟨p1, p2⟩ := mul_bd b1 b2 (show -4000 ≤ (lnOf ks lo hi).ru by omega) d2
  obtain ⟨p3, p4⟩ := mul_bd c1 c2 (show -8000 ≤ x - (lnOf ks lo hi).x0 by omega) (by omega)
  unfold Ln.num
  omega
/-- num and den of a value -/
structure Fr (n d : Int) : Prop where
  n1 : -2400000000 ≤ n
  n2 : n ≤ 2400000000
  d1 : 0 < d
  d2 : d ≤ 4000
theorem Vd.fr {ks err} (v : Vd ks err) {x : Int} (h0 : -4000 ≤ x) (h1 : x ≤ 4000) : Fr (valN ks x) (valD ks x) := by
  have h := v.numBd (lo := x) (hi := x) h0 h1
  have h2 := loN_bd (d := (lnOf ks x x).ru) h.1 h.2
  have h3 := loD_pos (n := (lnOf ks x x).num x) (v.lnOk x x).d1
  have h4 := (v.lnOk x x).d2
  exact ⟨h2.1, h2.2, h3.1, by unfold valD; omega⟩
theorem Fr.small {n d : Int} (h : Fr n d) : Small n d := ⟨by have := h.n1; omega, by have := h.n2; omega, by have := h.d1; omega, by have := h.d2; omega⟩
theorem Fr.plus {n d e : Int} (h : Fr n d) (h0 : -4000 ≤ e) (h1 : e ≤ 4000) : Small (n + e * d) d := by
  obtain ⟨a, b, c, g⟩ := h
  obtain ⟨p, q⟩ := mul_bd h0 h1 (show -4000 ≤ d by omega) g
  exact ⟨by omega, by omega, by omega, by omega⟩
/-- is it a fraction in lowest terms, within the limits? -/
def isF (n d : Int) : Bool := decide (1 ≤ d) && (decide (d ≤ 4194304) && (inB n 549755813888 && decide (Int.gcd n d = 1)))
theorem inB_iff {n m : Int} : inB n m = true ↔ -m ≤ n ∧ n ≤ m := by simp [inB]
theorem isF_small {n d : Int} (h : isF n d = true) : Small n d := by
  simp only [isF, Bool.and_eq_true, decide_eq_true_eq, inB_iff] at h
  exact ⟨by omega, by omega, by omega, by omega⟩
def badL (n d : Int) : Bool := decide (d = 0) || (!inB n 549755813888 || !inB d 549755813888)
def lowestR (n d : Int) : FE := if badL n d = true then ⟨0, 0, 1⟩ else if 4194304 < loD n d then ⟨0, 0, 3⟩ else ⟨loN n d, loD n d, 0⟩
/-- an order and an error -/
def compareR (a b c d : Int) : Int × Int := if (isF a b && isF c d) = true then (ordF a b c d, 0) else (0, 1)
/-! plain -/
theorem lo_mul {n d : Int} : loN n d * sg n d = n ∧ loD n d * sg n d = d := by
  have h1 : sg n d ∣ n := by unfold sg; split <;> simp [Int.neg_dvd, Int.gcd_dvd_left]
  have h2 : sg n d ∣ d := by unfold sg; split <;> simp [Int.neg_dvd, Int.gcd_dvd_right]
  exact ⟨Int.tdiv_mul_cancel h1, Int.tdiv_mul_cancel h2⟩
theorem sg_abs {n d : Int} : (sg n d).natAbs = Int.gcd n d := by unfold sg; split <;> simp
theorem lo_gcd {n d : Int} (h : d ≠ 0) : Int.gcd (loN n d) (loD n d) = 1 := by
  have h1 := Int.gcd_mul_right (loN n d) (sg n d) (loD n d)
  rw [lo_mul.1, lo_mul.2, sg_abs] at h1
  have h2 : 0 < Int.gcd n d := by have := Int.gcd_ne_zero_right (a := n) h; omega
  exact Nat.eq_of_mul_eq_mul_right h2 (by omega)
theorem loD_pos' {n d : Int} (h : d ≠ 0) : 0 < loD n d := by
  have h1 : loD n d * sg n d = d := lo_mul.2
  by_cases hd : d < 0
  · have : sg n d < 0 := by have := Int.gcd_ne_zero_right (a := n) h; unfold sg; rw [if_pos hd]; omega
    rcases Int.lt_trichotomy (loD n d) 0 with h2 | h2 | h2
    · have := Int.mul_pos_of_neg_of_neg h2 this; omega
    · rw [h2] at h1; omega
    · exact h2
  · have : 0 < sg n d := by have := Int.gcd_ne_zero_right (a := n) h; unfold sg; rw [if_neg hd]; omega
    rcases Int.lt_trichotomy (loD n d) 0 with h2 | h2 | h2
    · have := Int.mul_neg_of_neg_of_pos h2 this; omega
    · rw [h2] at h1; omega
    · exact h2
theorem isF_lo {n d : Int} (h : d ≠ 0) (hn : inB n 549755813888 = true) : isF (loN n d) (loD n d) = decide (loD n d ≤ 4194304) := by
  obtain ⟨h1, h2⟩ := inB_iff.1 hn
  have h3 := loN_bd (d := d) h1 h2
  have h4 := loD_pos' (n := n) h
  unfold isF
  rw [lo_gcd h, inB_iff.2 h3, decide_eq_true (show 1 ≤ loD n d by omega)]
  simp
theorem lo_pos {n d : Int} (h : 0 < d) : loN n d = n.tdiv (Int.gcd n d) ∧ loD n d = d.tdiv (Int.gcd n d) := by
  unfold loN loD sg; rw [if_neg (by omega)]; exact ⟨rfl, rfl⟩
theorem lo_neg {n d : Int} (h : d < 0) : loN (-n) (-d) = loN n d ∧ loD (-n) (-d) = loD n d := by
  have e : Int.gcd (-n) (-d) = Int.gcd n d := by simp [Int.neg_gcd, Int.gcd_neg]
  unfold loN loD sg
  rw [if_neg (by omega), if_pos h, e]
  simp [Int.neg_tdiv, Int.tdiv_neg]
theorem firstPc_eq {ks : List (Int × Int)} {p : Nat → Bool} {i : Nat} (hi : i + 1 < ks.length) (hp : p i = true) (hb : ∀ j, j < i → p j = false) : firstPc ks p = some i := by
  unfold firstPc
  rw [List.find?_range_eq_some]
  refine ⟨hp, ?_, fun j hj => by simp [hb j hj]⟩
  simp [pcN]; omega
theorem firstPc_none_of {ks : List (Int × Int)} {p : Nat → Bool} (hb : ∀ j, j + 1 < ks.length → p j = false) : firstPc ks p = none := by
  unfold firstPc
  rw [List.find?_eq_none]
  intro j hj
  have := List.mem_range.1 hj
  unfold pcN at this
  simp [hb j (by omega)]
theorem lo_whole {a r : Int} (h : 0 < r) : loN (a * r) r = a ∧ loD (a * r) r = 1 := by
  obtain ⟨h1, h2⟩ := lo_pos (n := a * r) h
  have e : (Int.gcd (a * r) r : Int) = r := by
    rw [Int.gcd_mul_left_left]; omega
  rw [h1, h2, e]
  exact ⟨Int.mul_tdiv_cancel _ (by omega), Int.tdiv_self (by omega)⟩
theorem lo_prime {a r : Int} (h : 0 < r) (hg : Int.gcd a r = 1) : loN a r = a ∧ loD a r = r := by
  obtain ⟨h1, h2⟩ := lo_pos (n := a) h
  rw [h1, h2, hg]
  simp
theorem lo_plus {a r n : Int} (h : 0 < r) (hg : Int.gcd a r = 1) : loN (a + n * r) r = a + n * r ∧ loD (a + n * r) r = r := by
  apply lo_prime h
  rw [Int.gcd_add_mul_right_left]; exact hg
/-- i is the first knot that is not before x -/
structure FirstAt (ks : List (Int × Int)) (x : Int) (i : Nat) : Prop where
  lt : i < ks.length
  ge : x ≤ kx ks i
  before : ∀ j, j < i → kx ks j < x
theorem lnOf_first {ks : List (Int × Int)} {x : Int} {i : Nat} (h : FirstAt ks x i) (hi : 0 < i) : lnOf ks x x = ⟨kx ks (i - 1), ky ks (i - 1), ky ks i - ky ks (i - 1), kx ks i - kx ks (i - 1)⟩ := by
  obtain ⟨h1, h2, h3⟩ := h
  obtain ⟨k, rfl⟩ : ∃ k, i = k + 1 := ⟨i - 1, by omega⟩
  have e : firstPc ks (inPc ks x x) = some k := by
    apply firstPc_eq h1
    · have := h3 k (by omega)
      simp [inPc, h2]; omega
    · intro j hj
      have := h3 (j + 1) (by omega)
      simp [inPc]; omega
  unfold lnOf
  rw [e]
  rfl
theorem val_first {ks : List (Int × Int)} {x : Int} {i : Nat} (hup : ∀ i j, i < j → j < ks.length → kx ks i < kx ks j) (h : FirstAt ks x i) (hlo : kx ks 0 ≤ x) :
    (kx ks i = x → valN ks x = ky ks i ∧ valD ks x = 1) ∧ (kx ks i ≠ x → 0 < i ∧ kx ks (i - 1) < x ∧ x < kx ks i ∧ valN ks x = loN (ky ks (i - 1) * (kx ks i - kx ks (i - 1)) + (ky ks i - ky ks (i - 1)) * (x - kx ks (i - 1))) (kx ks i - kx ks (i - 1)) ∧ valD ks x = loD (ky ks (i - 1) * (kx ks i - kx ks (i - 1)) + (ky ks i - ky ks (i - 1)) * (x - kx ks (i - 1))) (kx ks i - kx ks (i - 1))) := by
  by_cases hi : 0 < i
  · have e := lnOf_first h hi
    have hlt := hup (i - 1) i (by omega) h.lt
    have hb := h.before (i - 1) (by omega)
    unfold valN valD
    rw [e]
    refine ⟨fun hx => ?_, fun hx => ⟨hi, hb, by have := h.ge; omega, rfl, rfl⟩⟩
    have e2 : (⟨kx ks (i - 1), ky ks (i - 1), ky ks i - ky ks (i - 1), kx ks i - kx ks (i - 1)⟩ : Ln).num x = ky ks i * (kx ks i - kx ks (i - 1)) := by
      unfold Ln.num
      rw [← hx]
      show ky ks (i - 1) * (kx ks i - kx ks (i - 1)) + (ky ks i - ky ks (i - 1)) * (kx ks i - kx ks (i - 1)) = _
      rw [← Int.add_mul]
      congr 1
      omega
    rw [e2]
    exact lo_whole (by show 0 < kx ks i - kx ks (i - 1); omega)
  · obtain rfl : i = 0 := by omega
    have hx : kx ks 0 = x := by have := h.ge; omega
    refine ⟨fun _ => ?_, fun hn => absurd hx hn⟩
    by_cases hl : 1 < ks.length
    · have e : firstPc ks (inPc ks x x) = some 0 := by
        apply firstPc_eq hl
        · have := hup 0 1 (by omega) hl
          simp [inPc]; omega
        · intro j hj; omega
      have hlt := hup 0 1 (by omega) hl
      unfold valN valD lnOf
      rw [e]
      have e2 : (lnAt ks (some 0)).num x = ky ks 0 * (kx ks 1 - kx ks 0) := by
        unfold Ln.num lnAt
        simp [hx]
      rw [e2]
      exact lo_whole (by omega)
    · have e : firstPc ks (inPc ks x x) = none := firstPc_none_of (fun j hj => by omega)
      unfold valN valD lnOf
      rw [e]
      have e2 : (lnAt ks none).num x = ky ks 0 * 1 := by
        unfold Ln.num lnAt
        simp
      rw [e2]
      exact lo_whole (by decide)
/-- the index of the first one of the first k that no other one goes before -/
def bestIx {α : Type} (lt : α → α → Bool) (d : α) (l : List α) : Nat → Nat
  | 0 => 0
  | k + 1 => if lt (l[k]?.getD d) (l[bestIx lt d l k]?.getD d) then k else bestIx lt d l k
theorem bestIx_lt {α : Type} (lt : α → α → Bool) (d : α) (l : List α) : ∀ {k : Nat}, k ≤ l.length → 0 < l.length → bestIx lt d l k < l.length
  | 0, _, h => h
  | k + 1, h, h0 => by
    unfold bestIx
    split
    · omega
    · exact bestIx_lt lt d l (by omega) h0
/-- both ends of a range -/
structure En where
  a : Int
  b : Int
  c : Int
  d : Int
def En.Ok (x : En) : Prop := Small x.a x.b ∧ Small x.c x.d
def sortX (l : List Int) : List Int := l.mergeSort fun x y => decide (x ≤ y)
theorem sortX_len (l : List Int) : (sortX l).length = l.length := List.length_mergeSort _
/-- neighbours that are equal come to one -/
def uniq (l : List Int) : List Int := Lib.compact l
theorem uniq_len (l : List Int) : (uniq l).length ≤ l.length := by
  unfold uniq Lib.compact Lib.compactUpTo
  rw [List.length_map]
  exact Nat.le_trans (List.length_filter_le _ _) (by simp)
def innerX (lo hi : Int) (ks : List (Int × Int)) : List Int := (ks.filter fun k => decide (lo < k.1) && decide (k.1 < hi)).map (·.1)
def rawX (lo hi : Int) (l : List Cur) : List Int := [lo, hi] ++ l.flatMap fun c => innerX lo hi c.ks
def cornX (lo hi : Int) (l : List Cur) : List Int := uniq (sortX (rawX lo hi l))
theorem innerX_take {lo hi : Int} {ks : List (Int × Int)} {m : Nat} (h : m < ks.length) : innerX lo hi (ks.take (m + 1)) = innerX lo hi (ks.take m) ++ if lo < ks[m].1 ∧ ks[m].1 < hi then [ks[m].1] else [] := by
  unfold innerX
  rw [List.take_succ_eq_append_getElem h, List.filter_append, List.map_append]
  congr 1
  by_cases h1 : lo < ks[m].1 <;> by_cases h2 : ks[m].1 < hi <;> simp [h1, h2]
theorem innerX_len {lo hi : Int} {ks : List (Int × Int)} : (innerX lo hi ks).length ≤ ks.length := by
  unfold innerX
  rw [List.length_map]
  exact List.length_filter_le _ _
theorem rawX_take {lo hi : Int} {l : List Cur} {k : Nat} (h : k < l.length) : rawX lo hi (l.take (k + 1)) = rawX lo hi (l.take k) ++ innerX lo hi l[k].ks := by
  unfold rawX
  rw [List.take_succ_eq_append_getElem h, List.flatMap_append]
  simp
theorem rawX_len {lo hi : Int} : ∀ {l : List Cur}, (∀ i (h : i < l.length), l[i].ks.length ≤ 40) → (rawX lo hi l).length ≤ 2 + 40 * l.length
  | [], _ => by simp [rawX]
  | c :: l, h => by
    have h1 := rawX_len (lo := lo) (hi := hi) (l := l) (fun i hi => by have := h (i + 1) (by simpa using hi); simpa using this)
    have h2 := innerX_len (lo := lo) (hi := hi) (ks := c.ks)
    have h3 := h 0 (by simp)
    simp [rawX] at h1 h2 h3 ⊢
    omega
def lessF (x y : Int × Int) : Bool := decide (ordF x.1 x.2 y.1 y.2 < 0)
def moreF (x y : Int × Int) : Bool := decide (0 < ordF x.1 x.2 y.1 y.2)
/-- a list of fractions, cell by cell -/
def flatF (l : List (Int × Int)) : List Value := l.flatMap fun f => [Value.int .i64 f.1, Value.int .i64 f.2]
theorem flatF_len : ∀ (l : List (Int × Int)), (flatF l).length = l.length * 2
  | [] => rfl
  | f :: l => by have := flatF_len l; simp [flatF] at this ⊢; omega
theorem flatF_get : ∀ (l : List (Int × Int)) (i : Nat) (h : i < l.length), (flatF l)[i * 2]? = some (.int .i64 l[i].1) ∧ (flatF l)[i * 2 + 1]? = some (.int .i64 l[i].2)
  | [], i, h => by simp at h
  | f :: l, 0, _ => by simp [flatF]
  | f :: l, i + 1, h => by
    have h1 := flatF_get l i (by simpa using h)
    have e : flatF (f :: l) = Value.int .i64 f.1 :: Value.int .i64 f.2 :: flatF l := by simp [flatF]
    rw [e, show (i + 1) * 2 = i * 2 + 1 + 1 by omega]
    simpa using h1
/-- least, greatest, and where first -/
structure Pk where
  ln : Int
  ld : Int
  hn : Int
  hd : Int
  al : Int
  ah : Int
def pkOf (xs : List Int) (fs : List (Int × Int)) : Pk :=
  let i := bestIx lessF (0, 0) fs fs.length
  let j := bestIx moreF (0, 0) fs fs.length
  ⟨(fs[i]?.getD (0, 0)).1, (fs[i]?.getD (0, 0)).2, (fs[j]?.getD (0, 0)).1, (fs[j]?.getD (0, 0)).2, xs[i]?.getD 0, xs[j]?.getD 0⟩
theorem flatF_snoc (l : List (Int × Int)) (f : Int × Int) : flatF (l ++ [f]) = flatF l ++ [Value.int .i64 f.1, Value.int .i64 f.2] := by simp [flatF]
/-! over -/
def valF (ks : List (Int × Int)) (x : Int) : Int × Int := (valN ks x, valD ks x)
def overK (ks : List (Int × Int)) (lo hi : Int) : Pk := pkOf (cornX lo hi [⟨none, 0, ks, 0⟩]) ((cornX lo hi [⟨none, 0, ks, 0⟩]).map (valF ks))
theorem cornX_ks {lo hi : Int} {l l' : List Cur} (h : l.map (·.ks) = l'.map (·.ks)) : cornX lo hi l = cornX lo hi l' := by
  unfold cornX rawX
  have : (l.flatMap fun c => innerX lo hi c.ks) = l'.flatMap fun c => innerX lo hi c.ks := by
    have e1 : (l.flatMap fun c => innerX lo hi c.ks) = (l.map (·.ks)).flatMap (innerX lo hi) := by rw [List.flatMap_map]
    have e2 : (l'.flatMap fun c => innerX lo hi c.ks) = (l'.map (·.ks)).flatMap (innerX lo hi) := by rw [List.flatMap_map]
    rw [e1, e2, h]
  rw [this]
theorem uniq_mem {l : List Int} {x : Int} (h : x ∈ uniq l) : x ∈ l := by
  unfold uniq Lib.compact Lib.compactUpTo at h
  obtain ⟨i, hi, rfl⟩ := List.mem_map.1 h
  have hi2 := List.mem_range.1 (List.mem_filter.1 hi).1
  have : l.toArray[i]! = l[i] := by rw [getElem!_pos _ i (by simpa using hi2)]; simp
  rw [this]
  exact List.getElem_mem _
theorem cornX_mem {lo hi x : Int} {l : List Cur} (hlh : lo ≤ hi) (h : x ∈ cornX lo hi l) : lo ≤ x ∧ x ≤ hi := by
  have h1 := uniq_mem h
  have h2 : x ∈ rawX lo hi l := (List.mergeSort_perm _ _).mem_iff.1 h1
  unfold rawX at h2
  rcases List.mem_append.1 h2 with h3 | h3
  · simp at h3; omega
  · obtain ⟨c, hc, hx⟩ := List.mem_flatMap.1 h3
    unfold innerX at hx
    obtain ⟨k, hk, rfl⟩ := List.mem_map.1 hx
    have := (List.mem_filter.1 hk).2
    simp at this
    omega
theorem one_forall {p : Cur → Prop} {c : Cur} (h : p c) : ∀ i (hi : i < [c].length), p [c][i] := fun i hi => by
  have : i = 0 := by simp at hi; exact hi
  subst this
  exact h
theorem two_forall {p : Cur → Prop} {c d : Cur} (h : p c) (h2 : p d) : ∀ i (hi : i < [c, d].length), p [c, d][i] := fun i hi => by
  match i, hi with
  | 0, _ => exact h
  | 1, _ => exact h2
theorem uniq_pos {l : List Int} (h : 0 < l.length) : 0 < (uniq l).length := by
  unfold uniq Lib.compact Lib.compactUpTo
  rw [List.length_map]
  apply List.length_pos_of_mem (a := 0)
  rw [List.mem_filter]
  exact ⟨List.mem_range.2 h, by simp [Lib.keeps]⟩
theorem cornX_pos (lo hi : Int) (l : List Cur) : 0 < (cornX lo hi l).length := uniq_pos (by rw [sortX_len]; simp [rawX])
theorem cornX_le {lo hi : Int} {l : List Cur} (h : ∀ i (h : i < l.length), l[i].ks.length ≤ 40) (h2 : l.length ≤ 12) : (cornX lo hi l).length ≤ 1000000 := by
  have h1 := uniq_len (sortX (rawX lo hi l))
  rw [sortX_len] at h1
  have h3 := rawX_len (lo := lo) (hi := hi) h
  unfold cornX
  omega
/-- does a valid curve cover an x? -/
def inDom (ks : List (Int × Int)) (lo hi : Int) : Bool := decide (dLo ks ≤ lo) && decide (hi ≤ dHi ks)
/-- the error of a curve and a span -/
def errOn (ks : List (Int × Int)) (err lo hi : Int) : Int := if chk ks err = 0 then (if hi < lo then 1 else if inDom ks lo hi then 0 else 3) else chk ks err
theorem chkOn_one {c : Cur} {lo hi : Int} : chkOn [c] lo hi = if hi < lo then 1 else if inDom c.ks lo hi then 0 else 3 := by simp [chkOn, covL, inDom]
theorem dLo_kx {ks : List (Int × Int)} : dLo ks = kx ks 0 := rfl
theorem dHi_kx {ks : List (Int × Int)} : dHi ks = kx ks (ks.length - 1) := rfl
theorem Vd.dom {ks err lo hi} (v : Vd ks err) (h : inDom ks lo hi = true) : 0 ≤ lo ∧ hi ≤ 2000 := by
  simp only [inDom, Bool.and_eq_true, decide_eq_true_eq] at h
  have hp := v.pos
  have h1 := v.kx0 hp
  have h2 := v.kx1 (show ks.length - 1 < ks.length by omega)
  rw [dLo_kx, dHi_kx] at h
  omega
def valueR (ks : List (Int × Int)) (err x : Int) : FE :=
  if chk ks err = 0 then (if inDom ks x x = true then ⟨valN ks x, valD ks x, 0⟩ else ⟨0, 0, 3⟩) else ⟨0, 0, chk ks err⟩
/-- a peak and an error -/
structure PE where
  p : Pk
  e : Int
def Pk.val (p : Pk) : Value := .agg #[.int .i64 p.ln, .int .i64 p.ld, .int .i64 p.hn, .int .i64 p.hd, .int .i64 p.al, .int .i64 p.ah]
def PE.val (r : PE) : Value := .tuple #[r.p.val, .int .i64 r.e]
def overR (ks : List (Int × Int)) (err lo hi : Int) : PE :=
  if errOn ks err lo hi = 0 then ⟨overK ks lo hi, 0⟩ else ⟨⟨0, 0, 0, 0, 0, 0⟩, errOn ks err lo hi⟩
def riseK (ks : List (Int × Int)) (i : Nat) : Int := ky ks (i + 1) - ky ks i
def runK (ks : List (Int × Int)) (i : Nat) : Int := kx ks (i + 1) - kx ks i
def notUp (ks : List (Int × Int)) (i : Nat) : Bool := decide (riseK ks i ≤ 0)
def notDown (ks : List (Int × Int)) (i : Nat) : Bool := decide (0 ≤ riseK ks i)
def wayK (ks : List (Int × Int)) : Int :=
  match firstPc ks (notUp ks) with
  | none => 1
  | some _ => match firstPc ks (notDown ks) with
    | none => -1
    | some _ => 0
theorem Vd.pc {ks err} (v : Vd ks err) {i : Nat} (h : i + 1 < ks.length) : (-65536 ≤ ky ks i ∧ ky ks i ≤ 65536) ∧ (-65536 ≤ ky ks (i + 1) ∧ ky ks (i + 1) ≤ 65536) ∧ (0 ≤ kx ks i ∧ kx ks i < kx ks (i + 1) ∧ kx ks (i + 1) ≤ 2000) := by
  have hi : i < ks.length := by omega
  exact ⟨⟨v.ky0 hi, v.ky1 hi⟩, ⟨v.ky0 h, v.ky1 h⟩, v.kx0 hi, v.klt (Nat.lt_succ_self i) h, v.kx1 h⟩
/-! the least and the greatest value -/
def hLo (ks : List (Int × Int)) : Int := min (ky ks 0) (ky ks (ks.length - 1))
def hHi (ks : List (Int × Int)) : Int := max (ky ks 0) (ky ks (ks.length - 1))
theorem firstPc_no {ks : List (Int × Int)} {p : Nat → Bool} (h : firstPc ks p = none) {i : Nat} (hi : i + 1 < ks.length) : p i = false := by
  unfold firstPc at h
  rw [List.find?_eq_none] at h
  have := h i (List.mem_range.2 (by unfold pcN; omega))
  simpa using this
theorem way_ne {ks : List (Int × Int)} (h : wayK ks ≠ 0) {i : Nat} (hi : i + 1 < ks.length) : riseK ks i ≠ 0 := by
  unfold wayK at h
  split at h
  · rename_i h1
    have := firstPc_no h1 hi
    simp [notUp] at this
    omega
  · split at h
    · rename_i h1
      have := firstPc_no h1 hi
      simp [notDown] at this
      omega
    · exact absurd rfl h
def atV (ks : List (Int × Int)) (y : Int) (i : Nat) : Bool := decide (min (ky ks i) (ky ks (i + 1)) ≤ y) && decide (y ≤ max (ky ks i) (ky ks (i + 1)))
def invK (ks : List (Int × Int)) (y : Int) (i : Nat) : Int := kx ks i * riseK ks i + (y - ky ks i) * runK ks i
def invOf (ks : List (Int × Int)) (y : Int) : Int × Int :=
  match firstPc ks (atV ks y) with
  | none => (loN (kx ks 0) 1, loD (kx ks 0) 1)
  | some i => (loN (invK ks y i) (riseK ks i), loD (invK ks y i) (riseK ks i))
theorem Vd.hBd {ks err} (v : Vd ks err) : -65536 ≤ hLo ks ∧ hLo ks ≤ hHi ks ∧ hHi ks ≤ 65536 := by
  have hp := v.pos
  have h1 := v.ky0 hp
  have h2 := v.ky1 hp
  have h3 := v.ky0 (show ks.length - 1 < ks.length by omega)
  have h4 := v.ky1 (show ks.length - 1 < ks.length by omega)
  unfold hLo hHi
  omega
def inverseR (ks : List (Int × Int)) (err y : Int) : FE :=
  if chk ks err = 0 then (if wayK ks = 0 then ⟨0, 0, 4⟩ else if y < hLo ks ∨ hHi ks < y then ⟨0, 0, 3⟩ else ⟨(invOf ks y).1, (invOf ks y).2, 0⟩) else ⟨0, 0, chk ks err⟩
/-! Reach -/
structure RE where
  a : Int
  b : Int
  c : Int
  d : Int
  e : Int
def RE.val (r : RE) : Value := .tuple #[.agg #[.int .i64 r.a, .int .i64 r.b, .int .i64 r.c, .int .i64 r.d], .int .i64 r.e]
def badSp (lo hi : Int) : Bool := decide (hi < lo) || !inB lo 131072 || !inB hi 131072
def reachR (ks : List (Int × Int)) (err lo hi : Int) : RE :=
  if chk ks err = 0 then
    (if badSp lo hi = true then ⟨0, 0, 0, 0, 1⟩ else if wayK ks = 0 then ⟨0, 0, 0, 0, 4⟩
     else if min (hHi ks) (hi + err) < max (hLo ks) (lo - err) then ⟨0, 0, 0, 0, 5⟩
     else if wayK ks < 0 then ⟨(invOf ks (min (hHi ks) (hi + err))).1, (invOf ks (min (hHi ks) (hi + err))).2, (invOf ks (max (hLo ks) (lo - err))).1, (invOf ks (max (hLo ks) (lo - err))).2, 0⟩
     else ⟨(invOf ks (max (hLo ks) (lo - err))).1, (invOf ks (max (hLo ks) (lo - err))).2, (invOf ks (min (hHi ks) (hi + err))).1, (invOf ks (min (hHi ks) (hi + err))).2, 0⟩)
  else ⟨0, 0, 0, 0, chk ks err⟩
structure SpOk (lo hi : Int) : Prop where
  h1 : decide (lo ≤ hi) = true
  h2 : inB lo 131072 = true
  h3 : inB hi 131072 = true
  g1 : -131072 ≤ lo
  g2 : lo ≤ hi
  g3 : hi ≤ 131072
theorem lo_whole' {a r : Int} (h : r ≠ 0) : loN (a * r) r = a ∧ loD (a * r) r = 1 := by
  rcases Int.lt_or_gt_of_ne h with h1 | h1
  · have := lo_neg (n := a * r) h1
    rw [← Int.mul_neg] at this
    rw [← this.1, ← this.2]
    exact lo_whole (by omega)
  · exact lo_whole h1
/-- does the value lie at knot i, or between it and the one before? -/
def whereAt (ks : List (Int × Int)) (y : Int) (i : Nat) : Bool :=
  decide (ky ks i = y) || (decide (0 < i) && ((decide (ky ks (i - 1) < y) && decide (y < ky ks i)) || (decide (y < ky ks (i - 1)) && decide (ky ks i < y))))
def whereV (ks : List (Int × Int)) (y : Int) (i : Nat) : Int × Int :=
  if ky ks i = y then (kx ks i, 1)
  else if ky ks (i - 1) < y then (loN (kx ks (i - 1) * (ky ks i - ky ks (i - 1)) + (y - ky ks (i - 1)) * (kx ks i - kx ks (i - 1))) (ky ks i - ky ks (i - 1)), loD (kx ks (i - 1) * (ky ks i - ky ks (i - 1)) + (y - ky ks (i - 1)) * (kx ks i - kx ks (i - 1))) (ky ks i - ky ks (i - 1)))
  else (loN (kx ks (i - 1) * (ky ks (i - 1) - ky ks i) + (ky ks (i - 1) - y) * (kx ks i - kx ks (i - 1))) (ky ks (i - 1) - ky ks i), loD (kx ks (i - 1) * (ky ks (i - 1) - ky ks i) + (ky ks (i - 1) - y) * (kx ks i - kx ks (i - 1))) (ky ks (i - 1) - ky ks i))
def whereOf (ks : List (Int × Int)) (y : Int) : Option (Int × Int) := ((List.range ks.length).find? (whereAt ks y)).map (whereV ks y)
theorem whereOf_some {ks : List (Int × Int)} {y : Int} {i : Nat} (h : i < ks.length) (h1 : whereAt ks y i = true) (h2 : ∀ j, j < i → whereAt ks y j = false) : whereOf ks y = some (whereV ks y i) := by
  unfold whereOf
  rw [List.find?_range_eq_some.2 ⟨h1, List.mem_range.2 h, fun j hj => by simp [h2 j hj]⟩]
  rfl
theorem whereOf_none {ks : List (Int × Int)} {y : Int} (h2 : ∀ j, j < ks.length → whereAt ks y j = false) : whereOf ks y = none := by
  unfold whereOf
  rw [List.find?_eq_none.2 (fun j hj => by simp [h2 j (List.mem_range.1 hj)])]
  rfl
theorem way_up {ks : List (Int × Int)} (h : wayK ks = 1) {i : Nat} (hi : i + 1 < ks.length) : ky ks i < ky ks (i + 1) := by
  unfold wayK at h
  split at h
  · rename_i h1
    have := firstPc_no h1 hi
    rw [notUp, decide_eq_false_iff_not, riseK] at this
    omega
  · split at h <;> simp at h
theorem way_down {ks : List (Int × Int)} (h : wayK ks = -1) {i : Nat} (hi : i + 1 < ks.length) : ky ks (i + 1) < ky ks i := by
  unfold wayK at h
  split at h
  · simp at h
  · split at h
    · rename_i h1
      have := firstPc_no h1 hi
      simp [notDown, riseK] at this
      omega
    · simp at h
theorem way_cases (ks : List (Int × Int)) : wayK ks = 1 ∨ wayK ks = -1 ∨ wayK ks = 0 := by
  unfold wayK
  split
  · exact .inl rfl
  · split
    · exact .inr (.inl rfl)
    · exact .inr (.inr rfl)
theorem up_le {f : Nat → Int} {n : Nat} (h : ∀ i, i + 1 < n → f i < f (i + 1)) : ∀ {i j : Nat}, i ≤ j → j < n → f i ≤ f j := by
  intro i j hij hj
  induction j with
  | zero => obtain rfl : i = 0 := by omega
            exact Int.le_refl _
  | succ j ih =>
    by_cases e : i = j + 1
    · subst e; exact Int.le_refl _
    · have := ih (by omega) (by omega)
      have := h j hj
      omega
theorem up_lt {f : Nat → Int} {n : Nat} (h : ∀ i, i + 1 < n → f i < f (i + 1)) {i j : Nat} (hij : i < j) (hj : j < n) : f i < f j := by
  have := up_le h (show i ≤ j - 1 by omega) (by omega)
  have := h (j - 1) (by omega)
  rw [show j - 1 + 1 = j by omega] at this
  omega
/-- a value that a curve has: the reference finds it where the program does -/
theorem where_inv_at {ks : List (Int × Int)} {y : Int} (hw : wayK ks ≠ 0) {i : Nat} (hi : i < ks.length) (h1 : whereAt ks y i = true) (h2 : ∀ j, j < i → whereAt ks y j = false) : whereV ks y i = invOf ks y := by
  have hne : ∀ j, j + 1 < ks.length → ky ks (j + 1) - ky ks j ≠ 0 := fun j hj => by
    rcases way_cases ks with h | h | h
    · have := way_up h hj; omega
    · have := way_down h hj; omega
    · exact absurd h hw
  by_cases h0 : i = 0
  · subst h0
    have hy : ky ks 0 = y := by simpa [whereAt] using h1
    unfold whereV
    rw [if_pos hy]
    unfold invOf
    by_cases hl : 1 < ks.length
    · have e : firstPc ks (atV ks y) = some 0 := by
        apply firstPc_eq hl
        · simp [atV]; omega
        · intro j hj; omega
      rw [e]
      dsimp only
      have e2 : invK ks y 0 = kx ks 0 * riseK ks 0 := by
        unfold invK
        rw [hy]; simp
      rw [e2]
      have := lo_whole' (a := kx ks 0) (r := riseK ks 0) (hne 0 hl)
      rw [this.1, this.2]
    · have e : firstPc ks (atV ks y) = none := firstPc_none_of (fun j hj => by omega)
      rw [e]
      dsimp only
      have := lo_whole' (a := kx ks 0) (r := 1) (by decide)
      rw [Int.mul_one] at this
      rw [this.1, this.2]
  · obtain ⟨k, rfl⟩ : ∃ k, i = k + 1 := ⟨i - 1, by omega⟩
    have hk := hne k hi
    have e : firstPc ks (atV ks y) = some k := by
      apply firstPc_eq hi
      · simp [whereAt] at h1
        simp [atV]; omega
      · intro j hj
        -- y lies neither at a knot up to k, nor between two of them
        have g0 := h2 j (by omega)
        have g1 := h2 (j + 1) (by omega)
        simp [whereAt] at g0 g1
        simp [atV]
        omega
    unfold invOf
    rw [e]
    dsimp only
    unfold whereV
    simp only [Nat.add_sub_cancel]
    by_cases hy : ky ks (k + 1) = y
    · rw [if_pos hy]
      have e2 : invK ks y k = kx ks (k + 1) * riseK ks k := by
        unfold invK riseK runK
        rw [← hy, Int.mul_comm (ky ks (k + 1) - ky ks k), ← Int.add_mul]
        congr 1
        omega
      rw [e2]
      have := lo_whole' (a := kx ks (k + 1)) (r := riseK ks k) hk
      rw [this.1, this.2]
    · rw [if_neg hy]
      simp [whereAt, hy] at h1
      by_cases hlt : ky ks k < y
      · rw [if_pos hlt]
        rfl
      · rw [if_neg hlt]
        have hd : riseK ks k < 0 := by unfold riseK; omega
        have := lo_neg (n := invK ks y k) hd
        have e3 : -invK ks y k = kx ks k * (ky ks k - ky ks (k + 1)) + (ky ks k - y) * (kx ks (k + 1) - kx ks k) := by
          unfold invK riseK runK
          rw [Int.neg_add, ← Int.mul_neg, ← Int.neg_mul]
          congr 2 <;> omega
        have e4 : -riseK ks k = ky ks k - ky ks (k + 1) := by unfold riseK; omega
        rw [e3, e4] at this
        rw [this.1, this.2]
/-- a value that no knot has, nor any piece, lies beyond all -/
theorem where_none {ks : List (Int × Int)} {y : Int} (hne : 0 < ks.length) (h2 : ∀ j, j < ks.length → whereAt ks y j = false) : y < hLo ks ∨ hHi ks < y := by
  have g0 := h2 0 hne
  simp [whereAt] at g0
  by_cases hlt : ky ks 0 < y
  · have : ∀ j, j < ks.length → ky ks j < y := fun j => by
      induction j with
      | zero => intro _; exact hlt
      | succ j ih =>
        intro hj
        have g1 := h2 (j + 1) hj
        have := ih (by omega)
        simp [whereAt] at g1
        omega
    have := this (ks.length - 1) (by omega)
    right; unfold hHi; omega
  · have : ∀ j, j < ks.length → y < ky ks j := fun j => by
      induction j with
      | zero => intro _; omega
      | succ j ih =>
        intro hj
        have g1 := h2 (j + 1) hj
        have := ih (by omega)
        simp [whereAt] at g1
        omega
    have := this (ks.length - 1) (by omega)
    left; unfold hLo; omega
theorem where_range {ks : List (Int × Int)} {y : Int} (hw : wayK ks ≠ 0) {i : Nat} (hi : i < ks.length) (h1 : whereAt ks y i = true) : ¬ (y < hLo ks ∨ hHi ks < y) := by
  simp [whereAt] at h1
  rcases way_cases ks with h | h | h
  · have u : ∀ {a b : Nat}, a ≤ b → b < ks.length → ky ks a ≤ ky ks b := fun hab hb => up_le (f := ky ks) (fun i hi => way_up h hi) hab hb
    have a1 := u (Nat.zero_le i) hi
    have a2 := u (show i ≤ ks.length - 1 by omega) (by omega)
    have a3 := u (Nat.zero_le (i - 1)) (by omega)
    have a4 := u (show i - 1 ≤ i by omega) hi
    unfold hLo hHi
    omega
  · have u : ∀ {a b : Nat}, a ≤ b → b < ks.length → -ky ks a ≤ -ky ks b := fun hab hb => up_le (f := fun i => -ky ks i) (fun i hi => by have := way_down h hi; omega) hab hb
    have a1 := u (Nat.zero_le i) hi
    have a2 := u (show i ≤ ks.length - 1 by omega) (by omega)
    have a3 := u (Nat.zero_le (i - 1)) (by omega)
    have a4 := u (show i - 1 ≤ i by omega) hi
    unfold hLo hHi
    omega
  · exact absurd h hw
/-- what the reference finds -/
theorem whereOf_eq {ks : List (Int × Int)} {y : Int} (hw : wayK ks ≠ 0) (hne : 0 < ks.length) : whereOf ks y = if y < hLo ks ∨ hHi ks < y then none else some (invOf ks y) := by
  unfold whereOf
  cases h : (List.range ks.length).find? (whereAt ks y) with
  | none =>
    rw [List.find?_eq_none] at h
    rw [if_pos (where_none hne (fun j hj => by simpa using h j (List.mem_range.2 hj)))]
    rfl
  | some i =>
    obtain ⟨h1, h2, h3⟩ := List.find?_range_eq_some.1 h
    have hi := List.mem_range.1 h2
    rw [if_neg (where_range hw hi h1)]
    show some (whereV ks y i) = _
    rw [where_inv_at hw hi h1 (fun j hj => by simpa using h3 j hj)]
end Go.Proofs.YtbhklifflhoinaaGreat
