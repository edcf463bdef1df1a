/- Plain facts of layer 9: courts, rounds, letters. No walk, no number of a function. -/
import Derived.WalkKit
import Derived.Below
namespace Go.Proofs.Ytahmlgiogbnifaa
def inB (n lo hi : Int) : Bool := decide (lo ≤ n) && decide (n ≤ hi)
def crt (c : Int) : Bool := inB c 3 7
def chkC (c : Int) : Int := bif crt c then 0 else 1
def maj (c : Int) : Int := bif crt c then c.tdiv 2 + 1 else 0
def rdB (r : Int) : Bool := inB r 1 1048576
def chairI (c r : Int) : Int := bif crt c && rdB r then (r - 1).tmod c else 0
/-- an arbiter of the court -/
def arB (c n : Int) : Bool := decide (0 ≤ n) && decide (n < c)
structure Le where
  id : Int
  cs : Int
  kd : Int
  rd : Int
  fr : Int
  to : Int
  vo : Int
  fi : Int
instance : Inhabited Le := ⟨⟨0, 0, 0, 0, 0, 0, 0, 0⟩⟩
def headB (c : Int) (l : Le) : Bool := crt c && (inB l.cs 1 1099511627776 && (rdB l.rd && (inB l.id 0 1099511627776 && (arB c l.fr && (arB c l.to && inB l.fi 0 65536)))))
def kindB (c : Int) (l : Le) : Bool :=
  if l.kd = 1 then decide (l.fr = chairI c l.rd) && (decide (l.vo = 0) && decide (l.fi = 0))
  else if l.kd = 2 then decide (l.to = chairI c l.rd) && (inB l.vo 0 (l.rd - 1) && (decide (l.vo > 0) || decide (l.fi = 0)))
  else if l.kd = 3 then decide (l.fr = chairI c l.rd) && decide (l.vo = 0)
  else decide (l.kd = 4) && decide (l.vo = 0)
/-- whether a letter is formed -/
def frmB (c : Int) (l : Le) : Bool := headB c l && kindB c l
def alikeB (a b : Le) : Bool := decide (a.cs = b.cs) && (decide (a.kd = b.kd) && (decide (a.rd = b.rd) && (decide (a.fr = b.fr) && (decide (a.vo = b.vo) && decide (a.fi = b.fi)))))
/-- the next round of an arbiter -/
def nextR (c a r : Int) : Int := r + 1 + (a - r.tmod c + c).tmod c
def nextN (c a r : Int) : Int := bif crt c && (arB c a && (inB r 0 1048576 && rdB (nextR c a r))) then nextR c a r else 0
def nextE (c a r : Int) : Int := bif crt c && (arB c a && inB r 0 1048576) then (bif rdB (nextR c a r) then 0 else 2) else 1
theorem inB_yes {n lo hi : Int} (h : inB n lo hi = true) : lo ≤ n ∧ n ≤ hi := by simpa [inB] using h
theorem arB_in {c n : Int} : inB n 0 (c - 1) = arB c n := by
  rw [Bool.eq_iff_iff]
  simp [inB, arB]
  omega
theorem arB_yes {c n : Int} (h : arB c n = true) : 0 ≤ n ∧ n < c := by simpa [arB] using h
/-- the chair of round r is met behind k rounds that have others -/
theorem next_at {c a r : Int} (hc : 3 ≤ c ∧ c ≤ 7) (ha : 0 ≤ a ∧ a < c) (hr : 0 ≤ r) : (nextR c a r - 1).tmod c = a ∧ r + 1 ≤ nextR c a r ∧ nextR c a r ≤ r + c := by
  unfold nextR
  rw [Int.tmod_eq_emod_of_nonneg hr]
  have h1 := Int.emod_nonneg r (show c ≠ 0 by omega)
  have h2 := Int.emod_lt_of_pos r (show 0 < c by omega)
  rw [Int.tmod_eq_emod_of_nonneg (show 0 ≤ a - r % c + c by omega)]
  have h3 := Int.emod_nonneg (a - r % c + c) (show c ≠ 0 by omega)
  have h4 := Int.emod_lt_of_pos (a - r % c + c) (show 0 < c by omega)
  refine ⟨?_, by omega, by omega⟩
  rw [Int.tmod_eq_emod_of_nonneg (by omega)]
  have e : (r + 1 + (a - r % c + c) % c - 1) % c = a % c := by
    have : r + 1 + (a - r % c + c) % c - 1 = r + (a - r % c + c) % c := by omega
    rw [this, Int.add_emod_emod, show r + (a - r % c + c) = a + c * (r / c + 1) by have := Int.emod_add_mul_ediv r c; rw [Int.mul_add]; omega]
    exact Int.add_mul_emod_self_left a c _
  rw [e]
  exact Int.emod_eq_of_lt ha.1 ha.2
theorem next_first {c a r k : Int} (hc : 3 ≤ c ∧ c ≤ 7) (ha : 0 ≤ a ∧ a < c) (hr : 0 ≤ r) (h1 : r + 1 ≤ k) (h2 : k ≤ nextR c a r) (h3 : (k - 1).tmod c = a) : k = nextR c a r := by
  obtain ⟨g1, g2, g3⟩ := next_at hc ha hr
  rw [Int.tmod_eq_emod_of_nonneg (by omega)] at h3 g1
  have e1 := Int.emod_add_mul_ediv (k - 1) c
  have e2 := Int.emod_add_mul_ediv (nextR c a r - 1) c
  rw [h3] at e1
  rw [g1] at e2
  have hd : c * ((nextR c a r - 1) / c - (k - 1) / c) = nextR c a r - k := by rw [Int.mul_sub]; omega
  have hlt : nextR c a r - k < c := by omega
  have h0 : 0 ≤ nextR c a r - k := by omega
  generalize (nextR c a r - 1) / c - (k - 1) / c = d at hd
  have d0 : d = 0 := by
    rcases Int.lt_trichotomy d 0 with h | h | h
    · have : c * d < 0 := Int.mul_neg_of_pos_of_neg (by omega) h
      omega
    · exact h
    · have : c * 1 ≤ c * d := Int.mul_le_mul_of_nonneg_left h (by omega)
      omega
  rw [d0] at hd
  omega
end Go.Proofs.Ytahmlgiogbnifaa
