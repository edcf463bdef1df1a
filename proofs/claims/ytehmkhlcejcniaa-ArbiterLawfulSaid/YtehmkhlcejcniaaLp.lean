/- Plain facts of layer 9: courts, rounds, letters. No walk, no number of a function. -/
import Derived.WalkKit
import Derived.Below
namespace Go.Proofs.Ytehmkhlcejcniaa
def inB (n lo hi : Int) : Bool := decide (lo ≤ n) && decide (n ≤ hi)
def crt (c : Int) : Bool := inB c 3 7
def chkC (c : Int) : Int := bif crt c then 0 else 1
def maj (c : Int) : Int := bif crt c then c.tdiv 2 + 1 else 0
def rdB (r : Int) : Bool := inB r 1 1048576
def chairI (c r : Int) : Int := bif crt c && rdB r then (r - 1).tmod c else 0
/-- an arbiter of the court -/
def arB (c n : Int) : Bool := decide (0 ≤ n) && decide (n < c)
structure Le where
  id : Int
  cs : Int
  kd : Int
  rd : Int
  fr : Int
  to : Int
  vo : Int
  fi : Int
instance : Inhabited Le := ⟨⟨0, 0, 0, 0, 0, 0, 0, 0⟩⟩
def headB (c : Int) (l : Le) : Bool := crt c && (inB l.cs 1 1099511627776 && (rdB l.rd && (inB l.id 0 1099511627776 && (arB c l.fr && (arB c l.to && inB l.fi 0 65536)))))
def kindB (c : Int) (l : Le) : Bool :=
  if l.kd = 1 then decide (l.fr = chairI c l.rd) && (decide (l.vo = 0) && decide (l.fi = 0))
  else if l.kd = 2 then decide (l.to = chairI c l.rd) && (inB l.vo 0 (l.rd - 1) && (decide (l.vo > 0) || decide (l.fi = 0)))
  else if l.kd = 3 then decide (l.fr = chairI c l.rd) && decide (l.vo = 0)
  else decide (l.kd = 4) && decide (l.vo = 0)
/-- whether a letter is formed -/
def frmB (c : Int) (l : Le) : Bool := headB c l && kindB c l
def alikeB (a b : Le) : Bool := decide (a.cs = b.cs) && (decide (a.kd = b.kd) && (decide (a.rd = b.rd) && (decide (a.fr = b.fr) && (decide (a.vo = b.vo) && decide (a.fi = b.fi)))))
/-- the next round of an arbiter -/
def nextR (c a r : Int) : Int := r + 1 + (a - r.tmod c + c).tmod c
def nextN (c a r : Int) : Int := bif crt c && (arB c a && (inB r 0 1048576 && rdB (nextR c a r))) then nextR c a r else 0
def nextE (c a r : Int) : Int := bif crt c && (arB c a && inB r 0 1048576) then (bif rdB (nextR c a r) then 0 else 2) else 1
theorem inB_yes {n lo hi : Int} (h : inB n lo hi = true) : lo ≤ n ∧ n ≤ hi := by simpa [inB] using h
theorem arB_in {c n : Int} : inB n 0 (c - 1) = arB c n := by
  rw [Bool.eq_iff_iff]
  simp [inB, arB]
  omega
theorem arB_yes {c n : Int} (h : arB c n = true) : 0 ≤ n ∧ n < c := by simpa [arB] using h
end Go.Proofs.Ytehmkhlcejcniaa
