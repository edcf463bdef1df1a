/- Plain facts of high and low waters. No walk. -/
import Derived.Test.YtekpffjcffeanaaWq
namespace Go.Proofs.Ytekpffjcffeanaa

/-- is a above b, or beneath it? -/
def bey (b : Bool) (x y : Int) : Bool := if b = true then decide (y < x) else decide (x < y)
/-- is stand i one that goes beyond both of its neighbours? -/
def turnB (l : List Sd) (b : Bool) (i : Nat) : Bool := decide (1 ≤ i) && (decide (i + 1 < l.length) && (bey b (nthD l i).ht (nthD l (i - 1)).ht && bey b (nthD l i).ht (nthD l (i + 1)).ht))
def turnS (l : List Sd) (b : Bool) (k : Nat) : List Sd := ((List.range k).filter (turnB l b)).map (nthD l)
theorem turnS_succ (l : List Sd) (b : Bool) (k : Nat) : turnS l b (k + 1) = if turnB l b k = true then turnS l b k ++ [nthD l k] else turnS l b k := by
  unfold turnS
  rw [List.range_succ, List.filter_append, List.map_append]
  by_cases h : turnB l b k = true
  · rw [if_pos h]
    simp [h]
  · rw [if_neg h]
    simp [h]
theorem turnS_zero (l : List Sd) (b : Bool) : turnS l b 1 = [] := by
  rw [turnS_succ, if_neg (by simp [turnB])]
  rfl
theorem turnS_len (l : List Sd) (b : Bool) (k : Nat) : (turnS l b k).length ≤ k := by
  unfold turnS
  rw [List.length_map]
  exact Nat.le_trans (List.length_filter_le _ _) (by simp)
/-- behind the last but one nothing comes -/
theorem turnS_all {l : List Sd} {b : Bool} {k : Nat} (h : l.length ≤ k + 1) : ∀ j, turnS l b (k + j) = turnS l b k
  | 0 => rfl
  | j + 1 => by
    rw [← Nat.add_assoc, turnS_succ, if_neg (by simp [turnB]; omega), turnS_all h j]
theorem turnS_pre {l : List Sd} {b : Bool} (k : Nat) : ∀ j, ∃ r, turnS l b (k + j) = turnS l b k ++ r ∧ ∀ x ∈ r, ∃ i, k ≤ i ∧ i < k + j ∧ turnB l b i = true ∧ x = nthD l i
  | 0 => ⟨[], by simp, fun x hx => by cases hx⟩
  | j + 1 => by
    obtain ⟨r, h1, h2⟩ := turnS_pre k j
    rw [← Nat.add_assoc, turnS_succ, h1]
    by_cases h : turnB l b (k + j) = true
    · rw [if_pos h]
      refine ⟨r ++ [nthD l (k + j)], by rw [List.append_assoc], fun x hx => ?_⟩
      rcases List.mem_append.1 hx with hx | hx
      · obtain ⟨i, q1, q2, q3, q4⟩ := h2 x hx
        exact ⟨i, q1, by omega, q3, q4⟩
      · rw [List.mem_singleton.1 hx]
        exact ⟨k + j, by omega, by omega, h, rfl⟩
    · rw [if_neg h]
      exact ⟨r, rfl, fun x hx => by
        obtain ⟨i, q1, q2, q3, q4⟩ := h2 x hx
        exact ⟨i, q1, by omega, q3, q4⟩⟩
/-- the next one that goes beyond is this one, or a later one -/
theorem turnS_next {l : List Sd} {b : Bool} {k : Nat} (hk : k < l.length) : (turnB l b k = true → (turnS l b k).length < (turnS l b l.length).length ∧ nthD (turnS l b l.length) (turnS l b k).length = nthD l k) ∧
    (turnB l b k = false → (turnS l b k).length < (turnS l b l.length).length → ∃ i, k < i ∧ i < l.length ∧ nthD (turnS l b l.length) (turnS l b k).length = nthD l i) := by
  constructor
  · intro h
    obtain ⟨r, h1, _⟩ := turnS_pre (l := l) (b := b) (k + 1) (l.length - (k + 1))
    rw [show k + 1 + (l.length - (k + 1)) = l.length by omega, turnS_succ, if_pos h] at h1
    rw [h1]
    refine ⟨by simp, ?_⟩
    unfold nthD
    rw [List.append_assoc, List.getElem?_append_right (Nat.le_refl _), Nat.sub_self]
    rfl
  · intro h hlt
    obtain ⟨r, h1, h2⟩ := turnS_pre (l := l) (b := b) (k + 1) (l.length - (k + 1))
    rw [show k + 1 + (l.length - (k + 1)) = l.length by omega, turnS_succ, if_neg (by simp [h])] at h1
    rw [h1] at hlt ⊢
    cases r with
    | nil => simp at hlt
    | cons x r =>
      obtain ⟨i, q1, q2, q3, q4⟩ := h2 x (by simp)
      refine ⟨i, by omega, by omega, ?_⟩
      unfold nthD
      rw [List.getElem?_append_right (Nat.le_refl _), Nat.sub_self]
      show (some x).getD noSd = _
      exact q4
/-! what stands are -/
section
variable {f : Nat → Int} {lo : Int}
/-- what holds of a list of stands that ends with minute lo + m -/
structure Stl (f : Nat → Int) (lo : Int) (m : Nat) (l : List Sd) : Prop where
  ne : l ≠ []
  first : (nthD l 0).lo = lo
  last : (nthD l (l.length - 1)).hi = lo + (m : Int)
  one : ∀ i, i < l.length → lo ≤ (nthD l i).lo ∧ (nthD l i).lo ≤ (nthD l i).hi ∧ (nthD l i).hi ≤ lo + (m : Int) ∧ ∀ k : Nat, (nthD l i).lo ≤ lo + (k : Int) → lo + (k : Int) ≤ (nthD l i).hi → f k = (nthD l i).ht
  two : ∀ i, i + 1 < l.length → (nthD l (i + 1)).lo = (nthD l i).hi + 1 ∧ (nthD l (i + 1)).ht ≠ (nthD l i).ht
theorem nthD_left {l r : List Sd} {i : Nat} (h : i < l.length) : nthD (l ++ r) i = nthD l i := by
  unfold nthD
  rw [List.getElem?_append_left h]
theorem nthD_snoc {l : List Sd} {s : Sd} {i : Nat} (h : i = l.length) : nthD (l ++ [s]) i = s := by
  subst h
  unfold nthD
  simp
theorem all_stl : ∀ m, Stl f lo m (allS f lo (m + 1))
  | 0 => by
    refine ⟨by simp [allS], rfl, by simp [allS, doneS, curS, nthD], fun i hi => ?_, fun i hi => ?_⟩
    · have : i = 0 := by simpa [allS, doneS] using hi
      subst this
      refine ⟨by simp [allS, doneS, curS, nthD], by simp [allS, doneS, curS, nthD], by simp [allS, doneS, curS, nthD], fun k h1 h2 => ?_⟩
      simp [allS, doneS, curS, nthD] at h1 h2 ⊢
      have : k = 0 := by omega
      rw [this]
    · simp [allS, doneS] at hi
  | m + 1 => by
    have ih := all_stl m
    have hd : allS f lo (m + 1) = doneS f lo m ++ [curS f lo m] := rfl
    have hcl := cur_lo (f := f) (lo := lo) m
    have hch := cur_hi (f := f) (lo := lo) m
    have hct := cur_ht (f := f) (lo := lo) m
    have hlast : nthD (doneS f lo m ++ [curS f lo m]) (doneS f lo m).length = curS f lo m := nthD_snoc rfl
    rw [hd] at ih
    have hll : (doneS f lo m ++ [curS f lo m]).length = (doneS f lo m).length + 1 := by simp
    show Stl f lo (m + 1) (doneS f lo (m + 1) ++ [curS f lo (m + 1)])
    rw [doneS, curS]
    by_cases h : f (m + 1) = (curS f lo m).ht
    · rw [if_pos h, if_pos h]
      have hl2 : ∀ s : Sd, (doneS f lo m ++ [s]).length = (doneS f lo m).length + 1 := fun s => by simp
      have old : ∀ (s : Sd) i, i < (doneS f lo m).length → nthD (doneS f lo m ++ [s]) i = nthD (doneS f lo m ++ [curS f lo m]) i := fun s i hi => by rw [nthD_left hi, nthD_left hi]
      have o1 := ih.one (doneS f lo m).length (by omega)
      rw [hlast] at o1
      refine ⟨by simp, ?_, ?_, fun i hi => ?_, fun i hi => ?_⟩
      · by_cases hz : (doneS f lo m).length = 0
        · rw [nthD_snoc (by omega)]
          have := ih.first
          rw [nthD_snoc (by omega)] at this
          exact this
        · rw [old _ 0 (by omega)]
          exact ih.first
      · rw [nthD_snoc (by rw [hl2]; omega)]
      · rw [hl2] at hi
        by_cases hz : i < (doneS f lo m).length
        · rw [old _ i hz]
          obtain ⟨a, b, c, d⟩ := ih.one i (by omega)
          exact ⟨a, b, by omega, d⟩
        · rw [nthD_snoc (by omega)]
          refine ⟨hcl.1, by simp only; omega, by simp only; omega, fun k h1 h2 => ?_⟩
          simp only at h1 h2 ⊢
          by_cases hk : k = m + 1
          · rw [hk, h]
          · exact o1.2.2.2 k h1 (by omega)
      · rw [hl2] at hi
        rw [old _ i (by omega)]
        by_cases hz : i + 1 < (doneS f lo m).length
        · rw [old _ (i + 1) hz]
          exact ih.two i (by omega)
        · have hi2 : i + 1 = (doneS f lo m).length := by omega
          have := ih.two i (by omega)
          rw [nthD_snoc hi2] at this ⊢
          exact this
    · rw [if_neg h, if_neg h]
      have hl2 : (doneS f lo m ++ [curS f lo m] ++ [(⟨lo + ((m + 1 : Nat) : Int), lo + ((m + 1 : Nat) : Int), f (m + 1)⟩ : Sd)]).length = (doneS f lo m).length + 2 := by simp
      refine ⟨by simp, ?_, ?_, fun i hi => ?_, fun i hi => ?_⟩
      · rw [nthD_left (by omega)]
        exact ih.first
      · rw [nthD_snoc (by rw [hl2]; omega)]
      · rw [hl2] at hi
        by_cases hz : i < (doneS f lo m).length + 1
        · rw [nthD_left (by omega)]
          obtain ⟨a, b, c, d⟩ := ih.one i (by omega)
          exact ⟨a, b, by omega, d⟩
        · rw [nthD_snoc (by omega)]
          refine ⟨by simp only; omega, by simp only; omega, by simp only; omega, fun k h1 h2 => ?_⟩
          simp only at h1 h2 ⊢
          have : k = m + 1 := by omega
          rw [this]
      · rw [hl2] at hi
        rw [nthD_left (show i < (doneS f lo m ++ [curS f lo m]).length by omega)]
        by_cases hz : i + 1 < (doneS f lo m).length + 1
        · rw [nthD_left (by omega)]
          exact ih.two i (by omega)
        · rw [nthD_snoc (by omega)]
          have hi2 : i = (doneS f lo m).length := by omega
          rw [hi2, hlast]
          exact ⟨by simp only; omega, by simp only; exact h⟩
/-- stands lie one behind the other -/
theorem Stl.asc {m : Nat} {l : List Sd} (k : Stl f lo m l) : ∀ (j i : Nat), i + 1 + j < l.length → (nthD l i).hi < (nthD l (i + 1 + j)).lo
  | 0, i, h => by
    have := (k.two i (by omega)).1
    show _ < (nthD l (i + 1)).lo
    omega
  | j + 1, i, h => by
    have h1 := k.asc j i (by omega)
    have h2 := (k.two (i + 1 + j) (by omega)).1
    have h3 := (k.one (i + 1 + j) (by omega)).2.1
    rw [show i + 1 + (j + 1) = i + 1 + j + 1 by omega]
    omega
theorem Stl.ne_of {m : Nat} {l : List Sd} (k : Stl f lo m l) {i j : Nat} (h : i < j) (hj : j < l.length) : (nthD l i).lo < (nthD l j).lo := by
  have h1 := k.asc (j - (i + 1)) i (by omega)
  rw [show i + 1 + (j - (i + 1)) = j by omega] at h1
  have := (k.one i (by omega)).2.1
  omega
end
end Go.Proofs.Ytekpffjcffeanaa
