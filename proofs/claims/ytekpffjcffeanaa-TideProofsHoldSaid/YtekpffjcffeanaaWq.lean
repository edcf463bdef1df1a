/- Plain facts of stands: the longest runs of minutes with one height. No walk. -/
import Derived.Test.YtekpffjcffeanaaWp
namespace Go.Proofs.Ytekpffjcffeanaa

structure Sd where
  lo : Int
  hi : Int
  ht : Int
def noSd : Sd := ⟨0, 0, 0⟩
/-- the stand that goes on behind k + 1 minutes, and those that are over -/
def curS (f : Nat → Int) (lo : Int) : Nat → Sd
  | 0 => ⟨lo, lo, f 0⟩
  | k + 1 => if f (k + 1) = (curS f lo k).ht then ⟨(curS f lo k).lo, lo + ((k + 1 : Nat) : Int), (curS f lo k).ht⟩ else ⟨lo + ((k + 1 : Nat) : Int), lo + ((k + 1 : Nat) : Int), f (k + 1)⟩
def doneS (f : Nat → Int) (lo : Int) : Nat → List Sd
  | 0 => []
  | k + 1 => if f (k + 1) = (curS f lo k).ht then doneS f lo k else doneS f lo k ++ [curS f lo k]
/-- the stands of the first n minutes -/
def allS (f : Nat → Int) (lo : Int) : Nat → List Sd
  | 0 => []
  | n + 1 => doneS f lo n ++ [curS f lo n]
section
variable {f : Nat → Int} {lo : Int}
theorem cur_ht : ∀ k, (curS f lo k).ht = f k
  | 0 => rfl
  | k + 1 => by
    unfold curS
    split
    · rename_i h; rw [h]
    · rfl
theorem cur_hi : ∀ k, (curS f lo k).hi = lo + (k : Int)
  | 0 => by simp [curS]
  | k + 1 => by
    unfold curS
    split <;> rfl
theorem cur_lo : ∀ k, lo ≤ (curS f lo k).lo ∧ (curS f lo k).lo ≤ lo + (k : Int)
  | 0 => by simp [curS]
  | k + 1 => by
    have := cur_lo k
    unfold curS
    split
    · simp only; omega
    · simp only; omega
theorem done_pre : ∀ (j k : Nat), ∃ r, doneS f lo (k + j) = doneS f lo k ++ r
  | 0, k => ⟨[], by simp⟩
  | j + 1, k => by
    obtain ⟨r, h⟩ := done_pre j k
    rw [show k + (j + 1) = (k + j) + 1 by omega, doneS, h]
    split
    · exact ⟨r, rfl⟩
    · exact ⟨r ++ [curS f lo (k + j)], by rw [List.append_assoc]⟩
theorem done_len (k : Nat) : (doneS f lo k).length ≤ k := by
  induction k with
  | zero => simp [doneS]
  | succ k ih =>
    unfold doneS
    split
    · omega
    · simp; omega
theorem all_len (n : Nat) : (allS f lo n).length ≤ n := by
  cases n with
  | zero => simp [allS]
  | succ n => have := done_len (f := f) (lo := lo) n; simp [allS]; omega
def nthD (l : List Sd) (i : Nat) : Sd := l[i]?.getD noSd
theorem nthD_eq {l : List Sd} {i : Nat} (h : i < l.length) : nthD l i = l[i] := by simp [nthD, h]
/-- a stand that is over is one of all -/
theorem all_done {k n : Nat} (hk : k + 1 < n) (h : f (k + 1) ≠ f k) : (doneS f lo k).length < (allS f lo n).length ∧ nthD (allS f lo n) (doneS f lo k).length = curS f lo k := by
  obtain ⟨m, rfl⟩ : ∃ m, n = m + 1 := ⟨n - 1, by omega⟩
  have e1 : doneS f lo (k + 1) = doneS f lo k ++ [curS f lo k] := by
    rw [doneS, if_neg (by rw [cur_ht]; exact h)]
  obtain ⟨r, hr⟩ := done_pre (f := f) (lo := lo) (m - (k + 1)) (k + 1)
  rw [show k + 1 + (m - (k + 1)) = m by omega, e1] at hr
  have e2 : allS f lo (m + 1) = doneS f lo k ++ (curS f lo k :: (r ++ [curS f lo m])) := by
    rw [allS, hr]
    simp
  rw [e2]
  refine ⟨by simp, ?_⟩
  unfold nthD
  rw [List.getElem?_append_right (Nat.le_refl _), Nat.sub_self]
  rfl
theorem all_last (m : Nat) : (doneS f lo m).length + 1 = (allS f lo (m + 1)).length ∧ nthD (allS f lo (m + 1)) (doneS f lo m).length = curS f lo m := by
  refine ⟨by simp [allS], ?_⟩
  unfold nthD
  rw [allS, List.getElem?_append_right (Nat.le_refl _), Nat.sub_self]
  rfl
end
/-- the same with what is known before the first minute -/
def nowS (f : Nat → Int) (lo : Int) : Nat → Sd
  | 0 => noSd
  | k + 1 => curS f lo k
def jS (f : Nat → Int) (lo : Int) : Nat → Nat
  | 0 => 0
  | k + 1 => (doneS f lo k).length
/-- one more minute -/
def addS (l : List Sd) (t h : Int) : List Sd := match l.getLast? with
  | some s => if s.ht = h then l.dropLast ++ [⟨s.lo, t, s.ht⟩] else l ++ [⟨t, t, h⟩]
  | none => [⟨t, t, h⟩]
theorem all_succ {f : Nat → Int} {lo : Int} : ∀ n, allS f lo (n + 1) = addS (allS f lo n) (lo + (n : Int)) (f n)
  | 0 => by simp [allS, addS, doneS, curS]
  | n + 1 => by
    have hd : allS f lo (n + 1 + 1) = doneS f lo (n + 1) ++ [curS f lo (n + 1)] := rfl
    have he : allS f lo (n + 1) = doneS f lo n ++ [curS f lo n] := rfl
    rw [hd, he]
    unfold addS
    rw [List.getLast?_append]
    simp only [List.getLast?_singleton, Option.some_or, List.dropLast_concat]
    rw [doneS, curS]
    by_cases h : f (n + 1) = (curS f lo n).ht
    · rw [if_pos h, if_pos h, if_pos h.symm]
    · rw [if_neg h, if_neg h, if_neg (fun q => h q.symm)]
end Go.Proofs.Ytekpffjcffeanaa
