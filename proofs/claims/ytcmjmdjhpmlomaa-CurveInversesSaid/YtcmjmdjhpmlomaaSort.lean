
/- slices.Sort and slices.Compact on a list of ints that the call has made. -/
import Derived.Sort.OwnSortedInts
import Derived.Test.YtcmjmdjhpmlomaaVal
import Derived.Test.YtcmjmdjhpmlomaaShelf
namespace Go.Proofs.Ytcmjmdjhpmlomaa
open Go.RowKit Go.Shelf

def sortX (l : List Int) : List Int := l.mergeSort fun x y => decide (x ≤ y)
theorem sortX_len (l : List Int) : (sortX l).length = l.length := List.length_mergeSort _

theorem ownsRow_form {w : World} {B : Nat} {v : Value} {l : List Int} (h : w.ownsRow B 3 1 v l.length (l.map (Value.int .i64))) (hne : l ≠ []) :
    ∃ g cap cur, v = .slice (some ⟨g, 0, none⟩) l.length cap ∧ B ≤ g ∧ w.heap[g]? = some (.cells cur 3 (0, 0)) ∧ l.length ≤ cap ∧ cap ≤ maxLen ∧ cur.size = cap * 1 ∧ cur.toList.take l.length = l.map (Value.int .i64) := by
  rcases h.2 with ⟨_, h0⟩ | ⟨g, cap, cur, h1, h2, h3, h4, h5, h6, h7⟩
  · exact absurd (List.length_eq_zero_iff.1 h0) hne
  · exact ⟨g, cap, cur, h1, h2, h3, h4, h5, h6, by rw [Nat.mul_one] at h7; exact h7⟩

theorem ownsRow_prefix {w : World} {B g n cap : Nat} {a b : List Value} (h : w.ownsRow B 3 1 (.slice (some ⟨g, 0, none⟩) n cap) n (a ++ b)) : w.ownsRow B 3 1 (.slice (some ⟨g, 0, none⟩) a.length cap) a.length a := by
  obtain ⟨h1, h2⟩ := h
  refine ⟨by simp, .inr ?_⟩
  have hl : a.length ≤ n := by simp at h1; omega
  rcases h2 with ⟨h0, _⟩ | ⟨g', cap', cur, hv, hg, hh, hn, hc, hs, ht⟩
  · cases h0
  · cases hv
    refine ⟨g, cap, cur, rfl, hg, hh, by omega, hc, hs, ?_⟩
    have := congrArg (List.take a.length) ht
    rw [List.take_take, Nat.mul_one, Nat.min_eq_left hl, List.take_left'] at this
    · simpa using this
    · rfl

/-- neighbours that are equal come to one -/
def uniq (l : List Int) : List Int := Lib.compact l

theorem uniq_len (l : List Int) : (uniq l).length ≤ l.length := by
  unfold uniq Lib.compact Lib.compactUpTo
  rw [List.length_map]
  exact Nat.le_trans (List.length_filter_le _ _) (by simp)

end Go.Proofs.Ytcmjmdjhpmlomaa
