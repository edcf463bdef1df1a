/- Plain facts of layer 9: what the specification of a lawful letter asks. No walk, no number of a function. -/
import Derived.Test.YtehmkhlcejcniaaKr
namespace Go.Proofs.Ytehmkhlcejcniaa
theorem idxF_first {t : Le → Bool} {l : List Le} {k : Nat} (hk : k < l.length) (h : ∀ i, i < k → t (atL l i) = false) (h2 : t (atL l k) = true) : idxF t l 0 = (k : Int) := by
  have key : ∀ (l : List Le) (k c : Nat), k < l.length → (∀ i, i < k → t (atL l i) = false) → t (atL l k) = true → idxF t l c = ((c + k : Nat) : Int) := by
    intro l
    induction l with
    | nil => intro k c hk _ _; simp at hk
    | cons x r ih =>
      intro k c hk h h2
      rw [idxF]
      cases k with
      | zero =>
        have : t x = true := h2
        rw [if_pos this]
        rfl
      | succ k =>
        have h0 : t x = false := h 0 (by omega)
        rw [if_neg (by rw [h0]; simp), ih k (c + 1) (by simpa using hk) (fun i hi => h (i + 1) (by omega)) h2]
        congr 1
        omega
  have := key l k 0 hk h h2
  rwa [Nat.zero_add] at this
theorem idxF_none {t : Le → Bool} {l : List Le} (h : ∀ i, i < l.length → t (atL l i) = false) : idxF t l 0 = -1 := by
  have key : ∀ (l : List Le) (c : Nat), (∀ i, i < l.length → t (atL l i) = false) → idxF t l c = -1 := by
    intro l
    induction l with
    | nil => intro c _; rfl
    | cons x r ih =>
      intro c h
      have h0 : t x = false := h 0 (by simp)
      rw [idxF, if_neg (by rw [h0]; simp)]
      exact ih (c + 1) fun i hi => h (i + 1) (by simpa using hi)
  exact key l 0 h
/-- how many have a Voted of at most a round -/
def upT (l : List Le) (n : Int) : Nat → Int
  | 0 => 0
  | k + 1 => if (atL l k).vo ≤ n then upT l n k + 1 else upT l n k
def upN (l : List Le) (n : Int) : Int := upT l n l.length
theorem upT_le {l : List Le} {n : Int} : ∀ k : Nat, 0 ≤ upT l n k ∧ upT l n k ≤ (k : Int)
  | 0 => by simp [upT]
  | k + 1 => by
    have := upT_le (l := l) (n := n) k
    rw [upT]
    split <;> omega
def letR (c : Int) (l : List Le) (fi : Int) (y : Le) : Bool := decide (y.vo > 0) && (decide (y.fi = fi) && decide (upN l y.vo ≥ maj c))
def propR (c : Int) (l : List Le) (fi : Int) : Bool := if upN l 0 ≥ maj c then true else l.any (letR c l fi)
/-- a promise of an arbiter in a round of a case -/
def isP (cs rd a : Int) (y : Le) : Bool := decide (y.kd = 2) && (decide (y.cs = cs) && (decide (y.rd = rd) && decide (y.fr = a)))
/-- the first promises of the first k arbiters -/
def prR (l : List Le) (cs rd : Int) (k : Nat) : List Le := (List.range k).filterMap fun (a : Nat) => l.find? (isP cs rd (a : Int))
theorem prR_succ (l : List Le) (cs rd : Int) (k : Nat) : prR l cs rd (k + 1) = prR l cs rd k ++ (l.find? (isP cs rd (k : Int))).toList := by
  unfold prR
  rw [List.range_succ, List.filterMap_append]
  cases h : l.find? (isP cs rd (k : Int)) <;> simp [h]
theorem prR_len {l : List Le} {cs rd : Int} {k : Nat} : (prR l cs rd k).length ≤ k := by
  unfold prR
  have := List.length_filterMap_le (fun a : Nat => l.find? (isP cs rd (a : Int))) (List.range k)
  rwa [List.length_range] at this
/-- whether a letter is lawful behind others -/
def lawR (c : Int) (l : List Le) (x : Le) : Bool :=
  if l.any (fun y => alikeB y x) = true then true
  else if x.kd = 1 then true
  else if x.kd = 2 then canPr l x
  else if x.kd = 3 then (if thereB l 3 x.cs x.rd = true then false else propR c (prR l x.cs x.rd c.toNat) x.fi)
  else prB l x.cs x.rd && (decide (prF l x.cs x.rd = x.fi) && (decide (wR l x.fr x.cs ≤ x.rd) && decide (vR l x.fr x.cs < x.rd)))
end Go.Proofs.Ytehmkhlcejcniaa
