/- The reference's Suspects. -/
import Derived.Test.YtgjkfmcjalcefaaGreatJc
import Derived.Test.YtgjkfmcjalcefaaGreatJd
import Derived.Test.YtgjkfmcjalcefaaGreatQg
import Derived.Test.YtgjkfmcjalcefaaGreatZb
namespace Go.Proofs.YtgjkfmcjalcefaaGreat
open Go.Proofs.YtgjkfmcjalcefaaGreat.Ev

theorem InsAt.perm {xs ys : List Int} {n : Int} (k : InsAt xs n ys) : ys.Perm (xs ++ [n]) := by
  obtain ⟨a, _, _, _, rfl⟩ := k
  rw [List.append_assoc]
  have e : xs ++ [n] = xs.take a ++ (xs.drop a ++ [n]) := by rw [← List.append_assoc, List.take_append_drop]
  rw [e]
  exact List.Perm.append_left _ List.perm_append_comm
theorem InsAt.sorted {xs ys : List Int} {n : Int} (k : InsAt xs n ys) (hs : xs.Pairwise (· ≤ ·)) : ys.Pairwise (· ≤ ·) := by
  obtain ⟨a, ha, h1, h2, rfl⟩ := k
  have hp := List.pairwise_iff_getElem.1 hs
  have h3 : ∀ x ∈ xs.take a, x < n := fun x hx => by
    obtain ⟨i, hi, rfl⟩ := List.getElem_of_mem hx
    rw [List.length_take] at hi
    rw [List.getElem_take]
    have := h1 i (by omega)
    rwa [nth_eq (by omega)] at this
  have h4 : ∀ x ∈ xs.drop a, n ≤ x := fun x hx => by
    obtain ⟨i, hi, rfl⟩ := List.getElem_of_mem hx
    rw [List.length_drop] at hi
    rw [List.getElem_drop]
    have h5 := h2 (by omega)
    rw [nth_eq (by omega)] at h5
    rcases Nat.eq_zero_or_pos i with rfl | hi0
    · exact h5
    · exact Int.le_trans h5 (hp a (a + i) (by omega) (by omega) (by omega))
  refine List.pairwise_append.2 ⟨List.pairwise_append.2 ⟨hs.sublist (List.take_sublist _ _), List.pairwise_singleton _ _, fun x hx y hy => ?_⟩, hs.sublist (List.drop_sublist _ _), fun x hx y hy => ?_⟩
  · rw [List.mem_singleton.1 hy]
    exact Int.le_of_lt (h3 x hx)
  · rcases List.mem_append.1 hx with hx | hx
    · exact Int.le_trans (Int.le_of_lt (h3 x hx)) (h4 y hy)
    · rw [List.mem_singleton.1 hx]
      exact h4 y hy
/-- sorted, and the same numbers: the same -/
theorem sort_eq {xs ys : List Int} (hs : ys.Pairwise (· ≤ ·)) (hp : ys.Perm xs) : ys = sortX xs := by
  have h2 : (sortX xs).Pairwise (· ≤ ·) := by
    have := List.pairwise_mergeSort (le := fun (x y : Int) => decide (x ≤ y)) (fun a b c h1 h2 => by simp at h1 h2 ⊢; omega) (fun a b => by simp; omega) xs
    exact this.imp fun h => by simpa using h
  exact List.Perm.eq_of_pairwise (fun a b _ _ h1 h2 => Int.le_antisymm h1 h2) hs h2 (hp.trans (List.mergeSort_perm xs _).symm)
/-- ints that are held: none, or a row -/
def OwL (v : AV) (Lv : Ob) (xs : List Int) : Prop := (v = .slice0 ∧ Lv = [] ∧ xs = []) ∨ ∃ j, v = .slice j 0 xs.length (.m 0) ∧ Lv = [(j, .row (xs.map (AV.int .i64)) 3 1)] ∧ 0 < xs.length
theorem OwL.owI {h0 h : Heap} {W : List Nat} {V : Ob} {v : AV} {Lv : Ob} {xs : List Int} (k : OwL v Lv xs) (hh : Vw h0 W V h) (hm : ∀ x ∈ Lv, x ∈ V) : OwI h v xs := by
  rcases k with ⟨rfl, rfl, rfl⟩ | ⟨j, rfl, rfl, hn⟩
  · exact .inl ⟨rfl, rfl⟩
  · have ho := hh.own _ (hm _ (List.mem_singleton.2 rfl))
    refine .inr ⟨j, rfl, ho.2, .inr ⟨rfl, rfl, ho.2, ?_⟩, fun i hi => ?_, hn⟩
    · unfold knownN
      rw [ho.1]
      simp
    · rw [Nat.zero_add, Nat.mul_one]
      exact hh.rdL (hm _ (List.mem_singleton.2 rfl)) (AObj.has_row _ _ _) (by simp [hi])
theorem OwL.isL {v : AV} {Lv : Ob} {xs : List Int} (k : OwL v Lv xs) : IsL 3 1 xs.length (xs.map (AV.int .i64)) v Lv := by
  rcases k with ⟨rfl, rfl, rfl⟩ | ⟨j, rfl, rfl, hn⟩
  · exact .nil rfl rfl
  · exact .row j (by simp)
def rsusR (lv : Int) (cs : List Cy) (ss : List Sh) (l : List Ga) : List Int × Int := susR lv cs ss l
end Go.Proofs.YtgjkfmcjalcefaaGreat
