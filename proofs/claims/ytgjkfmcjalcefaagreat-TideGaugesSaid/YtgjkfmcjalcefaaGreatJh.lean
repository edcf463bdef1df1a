/- Plain facts of pairs in their order: what put hands back is sorted and has the same pairs; sorted lists of the same pairs are the same. -/
import Derived.Test.YtgjkfmcjalcefaaGreatJg
namespace Go.Proofs.YtgjkfmcjalcefaaGreat

theorem ltQ_true {p q : Int × Int} : ltQ p q = true ↔ p.1 < q.1 ∨ (p.1 = q.1 ∧ p.2 < q.2) := by unfold ltQ; simp
theorem ltQ_false {p q : Int × Int} : ltQ p q = false ↔ ¬ (p.1 < q.1 ∨ (p.1 = q.1 ∧ p.2 < q.2)) := by rw [← ltQ_true]; simp
theorem ltQ_asymm {p q : Int × Int} (h : ltQ p q = true) : ltQ q p = false := by
  rw [ltQ_true] at h
  rw [ltQ_false]
  omega
theorem leQ_trans {p q r : Int × Int} (h1 : ltQ q p = false) (h2 : ltQ r q = false) : ltQ r p = false := by
  rw [ltQ_false] at *
  omega
theorem leQ_antisymm {p q : Int × Int} (h1 : ltQ q p = false) (h2 : ltQ p q = false) : p = q := by
  rw [ltQ_false] at *
  exact Prod.ext (by omega) (by omega)
/-- in their order -/
def SortedQ (l : List (Int × Int)) : Prop := l.Pairwise fun p q => ltQ q p = false
theorem InsQ.perm {xs ys : List (Int × Int)} {n : Int × Int} (k : InsQ xs n ys) : ys.Perm (xs ++ [n]) := by
  obtain ⟨a, _, _, _, rfl⟩ := k
  rw [List.append_assoc]
  have e : xs ++ [n] = xs.take a ++ (xs.drop a ++ [n]) := by rw [← List.append_assoc, List.take_append_drop]
  rw [e]
  exact List.Perm.append_left _ List.perm_append_comm
theorem InsQ.sorted {xs ys : List (Int × Int)} {n : Int × Int} (k : InsQ xs n ys) (hs : SortedQ xs) : SortedQ ys := by
  obtain ⟨a, ha, h1, h2, rfl⟩ := k
  have hp := List.pairwise_iff_getElem.1 hs
  have h3 : ∀ x ∈ xs.take a, ltQ x n = true := fun x hx => by
    obtain ⟨i, hi, rfl⟩ := List.getElem_of_mem hx
    rw [List.length_take] at hi
    rw [List.getElem_take]
    have := h1 i (by omega)
    rwa [nthQ_eq (by omega)] at this
  have h4 : ∀ x ∈ xs.drop a, ltQ x n = false := fun x hx => by
    obtain ⟨i, hi, rfl⟩ := List.getElem_of_mem hx
    rw [List.length_drop] at hi
    rw [List.getElem_drop]
    have h5 := h2 (by omega)
    rw [nthQ_eq (by omega)] at h5
    rcases Nat.eq_zero_or_pos i with rfl | hi0
    · exact h5
    · exact leQ_trans h5 (hp a (a + i) (by omega) (by omega) (by omega))
  refine List.pairwise_append.2 ⟨List.pairwise_append.2 ⟨hs.sublist (List.take_sublist _ _), List.pairwise_singleton _ _, fun x hx y hy => ?_⟩, hs.sublist (List.drop_sublist _ _), fun x hx y hy => ?_⟩
  · rw [List.mem_singleton.1 hy]
    exact ltQ_asymm (h3 x hx)
  · rcases List.mem_append.1 hx with hx | hx
    · exact leQ_trans (ltQ_asymm (h3 x hx)) (h4 y hy)
    · rw [List.mem_singleton.1 hx]
      exact h4 y hy
theorem sortQ_eq {xs ys : List (Int × Int)} (h1 : SortedQ xs) (h2 : SortedQ ys) (hp : xs.Perm ys) : xs = ys :=
  List.Perm.eq_of_pairwise (fun _ _ _ _ h1 h2 => leQ_antisymm h1 h2) h1 h2 hp
/-! what the reference's Clashes puts in, one after the other -/
def emptyG (cs : List Cy) (ss : List Sh) (x : Ga) : Bool := decide ((lvG cs ss x).2 < (lvG cs ss x).1)
def apartG (cs : List Cy) (ss : List Sh) (x y : Ga) : Bool := Bool.and (Bool.and (decide ((lvG cs ss x).1 ≤ (lvG cs ss x).2)) (decide ((lvG cs ss y).1 ≤ (lvG cs ss y).2))) (decide (min (lvG cs ss x).2 (lvG cs ss y).2 < max (lvG cs ss x).1 (lvG cs ss y).1))
def rcIn (cs : List Cy) (ss : List Sh) (l : List Ga) (i : Nat) : Nat → List (Int × Int)
  | 0 => []
  | m + 1 => rcIn cs ss l i m ++ if apartG cs ss (nthG l i) (nthG l m) = true then [(min (nthG l i).id (nthG l m).id, max (nthG l i).id (nthG l m).id)] else []
def rcTo (cs : List Cy) (ss : List Sh) (l : List Ga) : Nat → List (Int × Int)
  | 0 => []
  | i + 1 => rcTo cs ss l i ++ (if emptyG cs ss (nthG l i) = true then [((nthG l i).id, (nthG l i).id)] else []) ++ rcIn cs ss l i i
end Go.Proofs.YtgjkfmcjalcefaaGreat
