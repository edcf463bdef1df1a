/- Plain facts: gauges that clash, those that are suspected. No walk. -/
import Derived.Test.YtgjkfmcjalcefaaGreatQq
namespace Go.Proofs.YtgjkfmcjalcefaaGreat

def neG (cs : List Cy) (ss : List Sh) (g : Ga) : Bool := decide ((lvG cs ss g).1 ≤ (lvG cs ss g).2)
def fitG (cs : List Cy) (ss : List Sh) (l : List Ga) : Bool := decide ((comG cs ss l).1 ≤ (comG cs ss l).2)
/-- do two gauges agree with some level together? -/
def toG (cs : List Cy) (ss : List Sh) (a b : Ga) : Bool := decide (max (lvG cs ss a).1 (lvG cs ss b).1 ≤ min (lvG cs ss a).2 (lvG cs ss b).2)
/-- the pairs of a gauge with those behind it -/
def pairP (cs : List Cy) (ss : List Sh) (a : Ga) (b : Ga) : List (Int × Int) := if (neG cs ss b && !toG cs ss a b) = true then [(a.id, b.id)] else []
def pairsTo (cs : List Cy) (ss : List Sh) (a : Ga) (r : List Ga) : List (Int × Int) := r.flatMap (pairP cs ss a)
def rowCl (cs : List Cy) (ss : List Sh) (a : Ga) (r : List Ga) : List (Int × Int) := if neG cs ss a = true then pairsTo cs ss a r else [(a.id, a.id)]
/-- the pairs of the first k gauges -/
def clTo (cs : List Cy) (ss : List Sh) (l : List Ga) : Nat → List (Int × Int)
  | 0 => []
  | k + 1 => clTo cs ss l k ++ rowCl cs ss (nthG l k) (l.drop (k + 1))
theorem pairsTo_succ {cs ss a} {r : List Ga} {j : Nat} (h : j < r.length) : pairsTo cs ss a (r.take (j + 1)) = pairsTo cs ss a (r.take j) ++ pairP cs ss a (nthG r j) := by
  unfold pairsTo
  rw [List.take_succ_eq_append_getElem h, List.flatMap_append, nthG_eq h]
  simp
/-- a pair of all: two gauges that don't agree, or one that agrees with nothing -/
def Cl (cs : List Cy) (ss : List Sh) (a b : Ga) : Prop := (a = b ∧ neG cs ss a = false) ∨ (neG cs ss a = true ∧ neG cs ss b = true ∧ toG cs ss a b = false)
theorem perm_map {α β : Type} {f : α → β} : ∀ {m n : List β}, m.Perm n → ∀ {l : List α}, n = l.map f → ∃ l' : List α, l'.Perm l ∧ m = l'.map f := by
  intro m n h
  induction h with
  | nil => intro l e; exact ⟨[], by rw [List.map_eq_nil_iff.1 e.symm], rfl⟩
  | cons x _ ih =>
    intro l e
    cases l with
    | nil => cases e
    | cons y l =>
      simp only [List.map_cons, List.cons.injEq] at e
      obtain ⟨rfl, e⟩ := e
      obtain ⟨l', h1, h2⟩ := ih e
      exact ⟨y :: l', h1.cons _, by rw [h2]; rfl⟩
  | swap x y r =>
    intro l e
    match l, e with
    | a :: b :: l, e =>
      simp only [List.map_cons, List.cons.injEq] at e
      obtain ⟨rfl, rfl, rfl⟩ := e
      exact ⟨b :: a :: l, List.Perm.swap _ _ _, rfl⟩
  | trans _ _ ih1 ih2 =>
    intro l e
    obtain ⟨l2, h1, rfl⟩ := ih2 e
    obtain ⟨l3, h3, rfl⟩ := ih1 rfl
    exact ⟨l3, h3.trans h1, rfl⟩
end Go.Proofs.YtgjkfmcjalcefaaGreat
