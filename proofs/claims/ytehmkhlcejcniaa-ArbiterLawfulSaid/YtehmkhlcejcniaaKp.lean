/- Plain facts of layer 9: the words of an arbiter, proposals. No walk, no number of a function. -/
import Derived.Test.YtehmkhlcejcniaaMp
namespace Go.Proofs.Ytehmkhlcejcniaa
def caseB (y : Le) (a cs : Int) : Bool := decide (y.cs = cs) && decide (y.fr = a)
def wordB (y : Le) (a cs : Int) : Bool := caseB y a cs && Bool.or (decide (y.kd = 2)) (decide (y.kd = 4))
/-- a vote of an arbiter in a case -/
def voteB (y : Le) (a cs : Int) : Bool := decide (y.kd = 4) && caseB y a cs
theorem vote_word (y : Le) (a cs : Int) : (decide (y.kd = 4) && wordB y a cs) = voteB y a cs := by
  unfold wordB voteB
  by_cases h : y.kd = 4 <;> simp [h]
/-- the round and the finding of the last vote among the first k letters -/
def lvR (l : List Le) (a cs : Int) : Nat → Int
  | 0 => 0
  | k + 1 => if voteB (atL l k) a cs = true ∧ (atL l k).rd > lvR l a cs k then (atL l k).rd else lvR l a cs k
def lvF (l : List Le) (a cs : Int) : Nat → Int
  | 0 => 0
  | k + 1 => if voteB (atL l k) a cs = true ∧ (atL l k).rd > lvR l a cs k then (atL l k).fi else lvF l a cs k
/-- the greatest round of the words among the first k letters -/
def lwR (l : List Le) (a cs : Int) : Nat → Int
  | 0 => 0
  | k + 1 => if wordB (atL l k) a cs = true then max (lwR l a cs k) (atL l k).rd else lwR l a cs k
def vR (l : List Le) (a cs : Int) : Int := lvR l a cs l.length
def vF (l : List Le) (a cs : Int) : Int := lvF l a cs l.length
def wR (l : List Le) (a cs : Int) : Int := lwR l a cs l.length
/-- a letter of a kind in a round of a case -/
def ofB (kd cs rd : Int) (y : Le) : Bool := decide (y.kd = kd) && (decide (y.cs = cs) && decide (y.rd = rd))
def thereB (l : List Le) (kd cs rd : Int) : Bool := l.any (ofB kd cs rd)
/-- the finding of the first proposal -/
def prI (l : List Le) (cs rd : Int) : Int := idxF (ofB 3 cs rd) l 0
def prB (l : List Le) (cs rd : Int) : Bool := decide (prI l cs rd ≥ 0)
def prF (l : List Le) (cs rd : Int) : Int := if prI l cs rd < 0 then 0 else (atL l (prI l cs rd).toNat).fi
theorem idxF_lt {t : Le → Bool} : ∀ {l : List Le} {k : Nat}, idxF t l k < (k : Int) + l.length
  | [], k => by simp [idxF]; omega
  | x :: r, k => by
    rw [idxF, List.length_cons]
    split
    · omega
    · have := idxF_lt (t := t) (l := r) (k := k + 1)
      omega
theorem prI_lt (l : List Le) (cs rd : Int) : prI l cs rd < l.length := by
  have := idxF_lt (t := ofB 3 cs rd) (l := l) (k := 0)
  unfold prI
  omega
theorem pr_there (l : List Le) (cs rd : Int) : prB l cs rd = thereB l 3 cs rd := by
  unfold prB prI thereB
  exact idxF_any
/-- open in a round -/
def openB (l : List Le) (a cs rd : Int) : Bool := decide (vR l a cs < rd) && decide (wR l a cs ≤ rd)
def canPr (l : List Le) (x : Le) : Bool := thereB l 1 x.cs x.rd && (decide (wR l x.fr x.cs < x.rd) && (decide (x.vo = vR l x.fr x.cs) && decide (x.fi = vF l x.fr x.cs)))
def canVo (l : List Le) (x : Le) : Bool := prB l x.cs x.rd && (decide (prF l x.cs x.rd = x.fi) && openB l x.fr x.cs x.rd)
end Go.Proofs.Ytehmkhlcejcniaa
