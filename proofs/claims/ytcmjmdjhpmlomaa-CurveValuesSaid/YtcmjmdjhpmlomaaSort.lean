/- slices.Sort and slices.Compact on a list of ints that the call has made. -/
import Derived.Sort.OwnSortedInts
import Derived.Test.YtcmjmdjhpmlomaaVal
import Derived.Test.YtcmjmdjhpmlomaaShelf
namespace Go.Proofs.Ytcmjmdjhpmlomaa
open Go.RowKit Go.Shelf

def sortX (l : List Int) : List Int := l.mergeSort fun x y => decide (x ≤ y)
theorem sortX_len (l : List Int) : (sortX l).length = l.length := List.length_mergeSort _

theorem ownsRow_form {w : World} {B : Nat} {v : Value} {l : List Int} (h : w.ownsRow B 3 1 v l.length (l.map (Value.int .i64))) (hne : l ≠ []) :
    ∃ g cap cur, v = .slice (some ⟨g, 0, none⟩) l.length cap ∧ B ≤ g ∧ w.heap[g]? = some (.cells cur 3 (0, 0)) ∧ l.length ≤ cap ∧ cap ≤ maxLen ∧ cur.size = cap * 1 ∧ cur.toList.take l.length = l.map (Value.int .i64) := by
  rcases h.2 with ⟨_, h0⟩ | ⟨g, cap, cur, h1, h2, h3, h4, h5, h6, h7⟩
  · exact absurd (List.length_eq_zero_iff.1 h0) hne
  · exact ⟨g, cap, cur, h1, h2, h3, h4, h5, h6, by rw [Nat.mul_one] at h7; exact h7⟩

theorem sort_own (w : World) (B : Nat) (v : Value) (l : List Int) (hne : l ≠ []) (hl : l.length < 1000000) (h : w.ownsRow B 3 1 v l.length (l.map (Value.int .i64))) :
    Calls Try.prog 122 #[v] w fun e w' => e = .returned (.tuple #[]) ∧ w'.ownsRow B 3 1 v (sortX l).length ((sortX l).map (Value.int .i64)) ∧ w.grownBy w' v.ownBlock := by
  obtain ⟨g, cap, cur, rfl, h2, h3, h4, h5, h6, h7⟩ := ownsRow_form h hne
  refine (Try.slices_Sort_int g 0 cap l w (holds_of_blockI h3 h7) (Array.getElem?_eq_some_iff.1 h3).1 (by omega)).mono ?_
  rintro e w' ⟨rfl, n, os, rfl⟩
  refine ⟨rfl, ?_, grownBy_sortedI _⟩
  rw [sortX_len]
  exact ownsRow_sortedI (sortX_len l) h2 h3 h4 h5 h6

theorem ownsRow_prefix {w : World} {B g n cap : Nat} {a b : List Value} (h : w.ownsRow B 3 1 (.slice (some ⟨g, 0, none⟩) n cap) n (a ++ b)) : w.ownsRow B 3 1 (.slice (some ⟨g, 0, none⟩) a.length cap) a.length a := by
  obtain ⟨h1, h2⟩ := h
  refine ⟨by simp, .inr ?_⟩
  have hl : a.length ≤ n := by simp at h1; omega
  rcases h2 with ⟨h0, _⟩ | ⟨g', cap', cur, hv, hg, hh, hn, hc, hs, ht⟩
  · cases h0
  · cases hv
    refine ⟨g, cap, cur, rfl, hg, hh, by omega, hc, hs, ?_⟩
    have := congrArg (List.take a.length) ht
    rw [List.take_take, Nat.mul_one, Nat.min_eq_left hl, List.take_left'] at this
    · simpa using this
    · rfl

/-- neighbours that are equal come to one -/
def uniq (l : List Int) : List Int := Lib.compact l

theorem uniq_len (l : List Int) : (uniq l).length ≤ l.length := by
  unfold uniq Lib.compact Lib.compactUpTo
  rw [List.length_map]
  exact Nat.le_trans (List.length_filter_le _ _) (by simp)

theorem compact_own (w : World) (B : Nat) (v : Value) (l : List Int) (hne : l ≠ []) (hl : l.length < 1000000) (h : w.ownsRow B 3 1 v l.length (l.map (Value.int .i64))) :
    Calls Try.prog 123 #[v] w fun e w' => ∃ v', e = .returned v' ∧ w'.ownsRow B 3 1 v' (uniq l).length ((uniq l).map (Value.int .i64)) ∧ w.grownBy w' v.ownBlock := by
  obtain ⟨g, cap, cur, rfl, h2, h3, h4, h5, h6, h7⟩ := ownsRow_form h hne
  refine (Try.slices_Compact_int g 0 cap l w (holds_of_blockI h3 h7) (by omega) h4).mono ?_
  rintro e w' ⟨rfl, q, rfl⟩
  have hu := uniq_len l
  have hlen : (uniq l ++ List.replicate (l.length - (uniq l).length) 0).length = l.length := by simp; omega
  have hown := ownsRow_sortedI (n := q) (os := #[]) (ss := l) hlen h2 h3 h4 h5 h6
  rw [Go.Sort.grow_empty, List.map_append] at hown
  have hg := grownBy_sortedI (w := w) (g := g) (n := q) (os := #[]) (uniq l ++ List.replicate (l.length - (uniq l).length) 0).toArray
  rw [Go.Sort.grow_empty] at hg
  refine ⟨_, rfl, ?_, hg⟩
  have := ownsRow_prefix hown
  rw [List.length_map] at this
  exact this
end Go.Proofs.Ytcmjmdjhpmlomaa
