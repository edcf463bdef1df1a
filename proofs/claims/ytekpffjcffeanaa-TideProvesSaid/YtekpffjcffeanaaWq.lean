/- Plain facts of stands: the longest runs of minutes with one height. No walk. -/
import Derived.Test.YtekpffjcffeanaaWp
namespace Go.Proofs.Ytekpffjcffeanaa

structure Sd where
  lo : Int
  hi : Int
  ht : Int
def noSd : Sd := ⟨0, 0, 0⟩
/-- the stand that goes on behind k + 1 minutes, and those that are over -/
def curS (f : Nat → Int) (lo : Int) : Nat → Sd
  | 0 => ⟨lo, lo, f 0⟩
  | k + 1 => if f (k + 1) = (curS f lo k).ht then ⟨(curS f lo k).lo, lo + ((k + 1 : Nat) : Int), (curS f lo k).ht⟩ else ⟨lo + ((k + 1 : Nat) : Int), lo + ((k + 1 : Nat) : Int), f (k + 1)⟩
def doneS (f : Nat → Int) (lo : Int) : Nat → List Sd
  | 0 => []
  | k + 1 => if f (k + 1) = (curS f lo k).ht then doneS f lo k else doneS f lo k ++ [curS f lo k]
/-- the stands of the first n minutes -/
def allS (f : Nat → Int) (lo : Int) : Nat → List Sd
  | 0 => []
  | n + 1 => doneS f lo n ++ [curS f lo n]
section
variable {f : Nat → Int} {lo : Int}
theorem cur_ht : ∀ k, (curS f lo k).ht = f k
  | 0 => rfl
  | k + 1 => by
    unfold curS
    split
    · rename_i h; rw [h]
    · rfl
theorem done_pre : ∀ (j k : Nat), ∃ r, doneS f lo (k + j) = doneS f lo k ++ r
  | 0, k => ⟨[], by simp⟩
  | j + 1, k => by
    obtain ⟨r, h⟩ := done_pre j k
    rw [show k + (j + 1) = (k + j) + 1 by omega, doneS, h]
    split
    · exact ⟨r, rfl⟩
    · exact ⟨r ++ [curS f lo (k + j)], by rw [List.append_assoc]⟩
def nthD (l : List Sd) (i : Nat) : Sd := l[i]?.getD noSd
/-- a stand that is over is one of all -/
theorem all_done {k n : Nat} (hk : k + 1 < n) (h : f (k + 1) ≠ f k) : (doneS f lo k).length < (allS f lo n).length ∧ nthD (allS f lo n) (doneS f lo k).length = curS f lo k := by
  obtain ⟨m, rfl⟩ : ∃ m, n = m + 1 := ⟨n - 1, by omega⟩
  have e1 : doneS f lo (k + 1) = doneS f lo k ++ [curS f lo k] := by
    rw [doneS, if_neg (by rw [cur_ht]; exact h)]
  obtain ⟨r, hr⟩ := done_pre (f := f) (lo := lo) (m - (k + 1)) (k + 1)
  rw [show k + 1 + (m - (k + 1)) = m by omega, e1] at hr
  have e2 : allS f lo (m + 1) = doneS f lo k ++ (curS f lo k :: (r ++ [curS f lo m])) := by
    rw [allS, hr]
    simp
  rw [e2]
  refine ⟨by simp, ?_⟩
  unfold nthD
  rw [List.getElem?_append_right (Nat.le_refl _), Nat.sub_self]
  rfl
end
/-- the same with what is known before the first minute -/
def nowS (f : Nat → Int) (lo : Int) : Nat → Sd
  | 0 => noSd
  | k + 1 => curS f lo k
def jS (f : Nat → Int) (lo : Int) : Nat → Nat
  | 0 => 0
  | k + 1 => (doneS f lo k).length
/-- one more minute -/
def addS (l : List Sd) (t h : Int) : List Sd := match l.getLast? with
  | some s => if s.ht = h then l.dropLast ++ [⟨s.lo, t, s.ht⟩] else l ++ [⟨t, t, h⟩]
  | none => [⟨t, t, h⟩]
end Go.Proofs.Ytekpffjcffeanaa
