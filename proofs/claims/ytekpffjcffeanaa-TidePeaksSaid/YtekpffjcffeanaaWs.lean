/- Plain facts of the highest and the lowest water. No walk. -/
import Derived.Test.YtekpffjcffeanaaWr
namespace Go.Proofs.Ytekpffjcffeanaa

/-- the first of the minutes 0 to k beyond which no other one goes -/
def exK (b : Bool) (f : Nat → Int) : Nat → Nat
  | 0 => 0
  | k + 1 => if bey b (f (k + 1)) (f (exK b f k)) = true then k + 1 else exK b f k
/-- the first stand of a list beyond which no other one goes -/
def bestL (b : Bool) : List Sd → Sd
  | [] => noSd
  | x :: r => r.foldl (fun m x => if bey b x.ht m.ht = true then x else m) x
theorem bestL_snoc {b : Bool} {l : List Sd} {s : Sd} (h : l ≠ []) : bestL b (l ++ [s]) = if bey b s.ht (bestL b l).ht = true then s else bestL b l := by
  cases l with
  | nil => exact absurd rfl h
  | cons x r =>
    show (r ++ [s]).foldl _ x = _
    rw [List.foldl_append]
    rfl
theorem bestL_take {b : Bool} {l : List Sd} {k : Nat} (h : k + 1 < l.length) : bestL b (l.take (k + 1 + 1)) = if bey b (nthD l (k + 1)).ht (bestL b (l.take (k + 1))).ht = true then nthD l (k + 1) else bestL b (l.take (k + 1)) := by
  have hne : l.take (k + 1) ≠ [] := by
    intro e
    have h2 : (l.take (k + 1)).length = 0 := by rw [e]; rfl
    rw [List.length_take] at h2
    omega
  rw [List.take_succ_eq_append_getElem h, bestL_snoc hne, nthD_eq h]
theorem bestL_one {b : Bool} {l : List Sd} (h : 0 < l.length) : bestL b (l.take 1) = nthD l 0 := by
  cases l with
  | nil => simp at h
  | cons x r => rfl
theorem exK_le (b : Bool) (f : Nat → Int) : ∀ k, exK b f k ≤ k
  | 0 => Nat.le_refl _
  | k + 1 => by
    have := exK_le b f k
    unfold exK
    split <;> omega
theorem bey_trans {b : Bool} {x y z : Int} (h1 : bey b x y = false) (h2 : bey b y z = false) : bey b x z = false := by
  unfold bey at *
  cases b <;> simp at * <;> omega
theorem bey_self (b : Bool) (x : Int) : bey b x x = false := by
  unfold bey
  cases b <;> simp
theorem bey_not {b : Bool} {x y : Int} (h : bey b x y = true) : bey b y x = false := by
  unfold bey at *
  cases b <;> simp at * <;> omega
theorem exK_best (b : Bool) (f : Nat → Int) : ∀ k i, i ≤ k → bey b (f i) (f (exK b f k)) = false
  | 0, i, h => by
    have : i = 0 := by omega
    subst this
    exact bey_self _ _
  | k + 1, i, h => by
    unfold exK
    split
    · rename_i hc
      rcases Nat.lt_succ_iff_lt_or_eq.1 (Nat.lt_succ_of_le h) with h2 | h2
      · exact bey_trans (exK_best b f k i (by omega)) (bey_not hc)
      · rw [h2]; exact bey_self _ _
    · rename_i hc
      rcases Nat.lt_succ_iff_lt_or_eq.1 (Nat.lt_succ_of_le h) with h2 | h2
      · exact exK_best b f k i (by omega)
      · rw [h2]; simpa using hc
theorem best_all {f : Nat → Int} {lo : Int} (b : Bool) : ∀ m, (bestL b (allS f lo (m + 1))).ht = f (exK b f m) ∧ (bestL b (allS f lo (m + 1))).lo = lo + (exK b f m : Int)
  | 0 => by simp [allS, doneS, curS, bestL, exK]
  | m + 1 => by
    obtain ⟨ih1, ih2⟩ := best_all (f := f) (lo := lo) b m
    have hct := cur_ht (f := f) (lo := lo) m
    by_cases h : f (m + 1) = (curS f lo m).ht
    · have hx : exK b f (m + 1) = exK b f m := by
        rw [exK, if_neg]
        rw [h, hct, exK_best b f m m (Nat.le_refl _)]
        simp
      have q1 : allS f lo (m + 1 + 1) = doneS f lo m ++ [⟨(curS f lo m).lo, lo + ((m + 1 : Nat) : Int), (curS f lo m).ht⟩] := by
        rw [allS, doneS, curS, if_pos h, if_pos h]
      have q2 : allS f lo (m + 1) = doneS f lo m ++ [curS f lo m] := rfl
      rw [q1, hx]
      rw [q2] at ih1 ih2
      by_cases hd : doneS f lo m = []
      · rw [hd] at ih1 ih2 ⊢
        exact ⟨ih1, ih2⟩
      · rw [bestL_snoc hd] at ih1 ih2 ⊢
        simp only
        by_cases hb : bey b (curS f lo m).ht (bestL b (doneS f lo m)).ht = true
        · rw [if_pos hb] at ih1 ih2 ⊢
          exact ⟨ih1, ih2⟩
        · rw [if_neg hb] at ih1 ih2 ⊢
          exact ⟨ih1, ih2⟩
    · have q1 : allS f lo (m + 1 + 1) = allS f lo (m + 1) ++ [⟨lo + ((m + 1 : Nat) : Int), lo + ((m + 1 : Nat) : Int), f (m + 1)⟩] := by
        rw [allS, doneS, curS, if_neg h, if_neg h]
        rfl
      rw [q1, bestL_snoc (by simp [allS]), exK, ih1]
      by_cases hb : bey b (f (m + 1)) (f (exK b f m)) = true
      · rw [if_pos hb, if_pos hb]
        exact ⟨rfl, rfl⟩
      · rw [if_neg hb, if_neg hb]
        exact ⟨ih1, ih2⟩
end Go.Proofs.Ytekpffjcffeanaa
