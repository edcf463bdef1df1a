
/- The contract of corners: the X at which some curves can bend, sorted, each once. -/
import Derived.Test.YtcmjmdjhpmlomaaSort
namespace Go.Proofs.Ytcmjmdjhpmlomaa
open Go.RowKit Go.Shelf

theorem info_int : (Try.prog.info? 3).map (fun i => (i.zero, i.size, i.bytes)) = some (some (.int .i64 0), 1, 8) := by kernel_rfl

/-- a new slice of ints is returned -/
def RetInts (B : Nat) (w : World) (l : List Int) (e : Ending) (w' : World) : Prop := ∃ v, e = .returned v ∧ w'.ownsRow B 3 1 v l.length (l.map (Value.int .i64)) ∧ Below B w w'

def innerX (lo hi : Int) (ks : List (Int × Int)) : List Int := (ks.filter fun k => decide (lo < k.1) && decide (k.1 < hi)).map (·.1)
def rawX (lo hi : Int) (l : List Cur) : List Int := [lo, hi] ++ l.flatMap fun c => innerX lo hi c.ks
def cornX (lo hi : Int) (l : List Cur) : List Int := uniq (sortX (rawX lo hi l))

theorem ownsRow_base {w : World} {B B' n : Nat} {v : Value} {xs : List Value} (h : w.ownsRow B 3 1 v n xs) (hB : B' ≤ B) : w.ownsRow B' 3 1 v n xs :=
  ⟨h.1, h.2.imp id fun ⟨g, cap, cur, a, b, r⟩ => ⟨g, cap, cur, a, by omega, r⟩⟩

theorem innerX_take {lo hi : Int} {ks : List (Int × Int)} {m : Nat} (h : m < ks.length) : innerX lo hi (ks.take (m + 1)) = innerX lo hi (ks.take m) ++ if lo < ks[m].1 ∧ ks[m].1 < hi then [ks[m].1] else [] := by
  unfold innerX
  rw [List.take_succ_eq_append_getElem h, List.filter_append, List.map_append]
  congr 1
  by_cases h1 : lo < ks[m].1 <;> by_cases h2 : ks[m].1 < hi <;> simp [h1, h2]
theorem innerX_len {lo hi : Int} {ks : List (Int × Int)} : (innerX lo hi ks).length ≤ ks.length := by
  unfold innerX
  rw [List.length_map]
  exact List.length_filter_le _ _
theorem rawX_take {lo hi : Int} {l : List Cur} {k : Nat} (h : k < l.length) : rawX lo hi (l.take (k + 1)) = rawX lo hi (l.take k) ++ innerX lo hi l[k].ks := by
  unfold rawX
  rw [List.take_succ_eq_append_getElem h, List.flatMap_append]
  simp
theorem rawX_len {lo hi : Int} : ∀ {l : List Cur}, (∀ i (h : i < l.length), l[i].ks.length ≤ 40) → (rawX lo hi l).length ≤ 2 + 40 * l.length
  | [], _ => by simp [rawX]
  | c :: l, h => by
    have h1 := rawX_len (lo := lo) (hi := hi) (l := l) (fun i hi => by have := h (i + 1) (by simpa using hi); simpa using this)
    have h2 := innerX_len (lo := lo) (hi := hi) (ks := c.ks)
    have h3 := h 0 (by simp)
    simp [rawX] at h1 h2 h3 ⊢
    omega

end Go.Proofs.Ytcmjmdjhpmlomaa
