/- Layer 8: what a book's items brought to a bill, to an account. -/
import Derived.Test.YtkebbdpfjhhdhaaGreatDv
import Derived.Test.YtkebbdpfjhhdhaaGreatFb
/- Layer 8, plain: the book of items. -/
namespace Go.Proofs.YtkebbdpfjhhdhaaGreat
open Go.Proofs.YtkebbdpfjhhdhaaGreat.Ev

/-- a book: the last closed day, the postings, the items that were taken, the numbers of those that were refused -/
structure Bk where
  cl : Int
  ps : List Po
  tk : List Im
  rf : List Int
/-- the items that gave a bill its amounts -/
def amtL (l : List Im) (n : Int) : List Im := l.filter fun x => decide (x.bl = n)
def trB (b : Bk) (it dy am to fr : Int) : Option Bk :=
  if max dy (b.cl + 1) > 728 then none else some { b with ps := b.ps ++ [⟨it, max dy (b.cl + 1), to, am⟩, ⟨it, max dy (b.cl + 1), fr, 0 - am⟩] }
/-- what an account brought by items of a kind, less what it got back by those of another one -/
def leftL (i o a : Int) : List Im → Int
  | [] => 0
  | x :: l => (if x.ac = a then (if x.kd = o then -x.am else if x.kd = i then x.am else 0) else 0) + leftL i o a l
def headE (l : List Im) : Im := nthE l 0
def lastE (l : List Im) : Im := nthE l (l.length - 1)
/-- what an item brings; none if it is refused -/
def doB (b : Bk) (x : Im) : Option Bk :=
  if x.kd = 1 then (if (amtL b.tk x.bl).length = 0 then trB b x.id x.dy x.am x.ac 2 else none)
  else if x.kd = 2 then (if (amtL b.tk x.bl).length = 0 then none else trB b x.id (headE (amtL b.tk x.bl)).dy (x.am - (lastE (amtL b.tk x.bl)).am) (headE (amtL b.tk x.bl)).ac 2)
  else if x.kd = 3 then trB b x.id x.dy x.am 1 x.ac
  else if x.kd = 4 then (if leftL 3 4 x.ac b.tk ≥ x.am then trB b x.id x.dy x.am x.ac 1 else none)
  else if x.kd = 5 then trB b x.id x.dy x.am 1 3
  else if x.kd = 6 then (if leftL 5 6 x.ac b.tk ≥ x.am then trB b x.id x.dy x.am 3 1 else none)
  else if x.dy ≤ b.cl then none else some { b with cl := x.dy }
def stepB (b : Bk) (x : Im) : Bk :=
  match doB b x with
  | some c => { c with tk := c.tk ++ [x] }
  | none => { b with rf := b.rf ++ [x.id] }
def bk0 : Bk := ⟨-1, [], [], []⟩
/-- the items as known on a day -/
def knB (l : List Im) (k : Int) : List Im := (compP (srtJ l)).filter fun x => decide (x.kn ≤ k)
def bookL (b : Bk) (l : List Im) : Bk := l.foldl stepB b
def bookB (l : List Im) (k : Int) : Bk := bookL bk0 (knB l k)
theorem trB_tk {b c : Bk} {it dy am to fr : Int} (h : trB b it dy am to fr = some c) : c.tk = b.tk ∧ c.rf = b.rf ∧ c.cl = b.cl ∧ max dy (b.cl + 1) ≤ 728 ∧ c.ps = b.ps ++ [⟨it, max dy (b.cl + 1), to, am⟩, ⟨it, max dy (b.cl + 1), fr, 0 - am⟩] := by
  unfold trB at h
  split at h
  · cases h
  · cases h
    exact ⟨rfl, rfl, rfl, by omega, rfl⟩
theorem doB_tk {b c : Bk} {x : Im} (h : doB b x = some c) : c.tk = b.tk ∧ c.rf = b.rf := by
  unfold doB at h
  repeat' split at h
  all_goals first | cases h; done | (cases h; exact ⟨rfl, rfl⟩) | (have := trB_tk h; exact ⟨this.1, this.2.1⟩)
end Go.Proofs.YtkebbdpfjhhdhaaGreat

/- Layer 8: what a book's items brought to a bill, to an account. -/
namespace Go.Proofs.YtkebbdpfjhhdhaaGreat
open Go.Proofs.YtkebbdpfjhhdhaaGreat.Ev

theorem IsR.eVI {h0 h : Heap} {W : List Nat} {V : Ob} {l : List Im} {n : Nat} {v : AV} {Lv : Ob} (k : IsR 114 7 n (enF imC l) v Lv) (hn : l.length = n) (hh : Vw h0 W V h) (hm : ∀ x ∈ Lv, x ∈ V) : ImV h v l := en_v imC_len k.isL hn hh hm
/-- what items of two kinds bring to their accounts -/
def brgL (o : Int) (x : Im) : Int × Int := if x.kd = o then (x.ac, -x.am) else (x.ac, x.am)
def leftP (i o : Int) (l : List Im) : List (Int × Int) := (l.filter fun x => decide (x.kd = i ∨ x.kd = o)).map (brgL o)
end Go.Proofs.YtkebbdpfjhhdhaaGreat
