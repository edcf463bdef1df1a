
/- Plain facts of inverses: the reference finds a value where the program does. -/
import Derived.Test.YtcmjmdjhpmlomaaInv
import Derived.Test.YtcmjmdjhpmlomaaMVal
namespace Go.Proofs.Ytcmjmdjhpmlomaa
open Go.RowKit

theorem lo_whole' {a r : Int} (h : r ≠ 0) : loN (a * r) r = a ∧ loD (a * r) r = 1 := by
  rcases Int.lt_or_gt_of_ne h with h1 | h1
  · have := lo_neg (n := a * r) h1
    rw [← Int.mul_neg] at this
    rw [← this.1, ← this.2]
    exact lo_whole (by omega)
  · exact lo_whole h1
/-- does the value lie at knot i, or between it and the one before? -/
def whereAt (ks : List (Int × Int)) (y : Int) (i : Nat) : Bool :=
  decide (ky ks i = y) || (decide (0 < i) && ((decide (ky ks (i - 1) < y) && decide (y < ky ks i)) || (decide (y < ky ks (i - 1)) && decide (ky ks i < y))))
def whereV (ks : List (Int × Int)) (y : Int) (i : Nat) : Int × Int :=
  if ky ks i = y then (kx ks i, 1)
  else if ky ks (i - 1) < y then (loN (kx ks (i - 1) * (ky ks i - ky ks (i - 1)) + (y - ky ks (i - 1)) * (kx ks i - kx ks (i - 1))) (ky ks i - ky ks (i - 1)), loD (kx ks (i - 1) * (ky ks i - ky ks (i - 1)) + (y - ky ks (i - 1)) * (kx ks i - kx ks (i - 1))) (ky ks i - ky ks (i - 1)))
  else (loN (kx ks (i - 1) * (ky ks (i - 1) - ky ks i) + (ky ks (i - 1) - y) * (kx ks i - kx ks (i - 1))) (ky ks (i - 1) - ky ks i), loD (kx ks (i - 1) * (ky ks (i - 1) - ky ks i) + (ky ks (i - 1) - y) * (kx ks i - kx ks (i - 1))) (ky ks (i - 1) - ky ks i))
def whereOf (ks : List (Int × Int)) (y : Int) : Option (Int × Int) := ((List.range ks.length).find? (whereAt ks y)).map (whereV ks y)
theorem whereOf_some {ks : List (Int × Int)} {y : Int} {i : Nat} (h : i < ks.length) (h1 : whereAt ks y i = true) (h2 : ∀ j, j < i → whereAt ks y j = false) : whereOf ks y = some (whereV ks y i) := by
  unfold whereOf
  rw [List.find?_range_eq_some.2 ⟨h1, List.mem_range.2 h, fun j hj => by simp [h2 j hj]⟩]
  rfl
theorem whereOf_none {ks : List (Int × Int)} {y : Int} (h2 : ∀ j, j < ks.length → whereAt ks y j = false) : whereOf ks y = none := by
  unfold whereOf
  rw [List.find?_eq_none.2 (fun j hj => by simp [h2 j (List.mem_range.1 hj)])]
  rfl
theorem way_up {ks : List (Int × Int)} (h : wayK ks = 1) {i : Nat} (hi : i + 1 < ks.length) : ky ks i < ky ks (i + 1) := by
  unfold wayK at h
  split at h
  · rename_i h1
    have := firstPc_no h1 hi
    rw [notUp, decide_eq_false_iff_not, riseK] at this
    omega
  · split at h <;> simp at h
theorem way_down {ks : List (Int × Int)} (h : wayK ks = -1) {i : Nat} (hi : i + 1 < ks.length) : ky ks (i + 1) < ky ks i := by
  unfold wayK at h
  split at h
  · simp at h
  · split at h
    · rename_i h1
      have := firstPc_no h1 hi
      simp [notDown, riseK] at this
      omega
    · simp at h
theorem way_cases (ks : List (Int × Int)) : wayK ks = 1 ∨ wayK ks = -1 ∨ wayK ks = 0 := by
  unfold wayK
  split
  · exact .inl rfl
  · split
    · exact .inr (.inl rfl)
    · exact .inr (.inr rfl)
theorem up_le {f : Nat → Int} {n : Nat} (h : ∀ i, i + 1 < n → f i < f (i + 1)) : ∀ {i j : Nat}, i ≤ j → j < n → f i ≤ f j := by
  intro i j hij hj
  induction j with
  | zero => obtain rfl : i = 0 := by omega
            exact Int.le_refl _
  | succ j ih =>
    by_cases e : i = j + 1
    · subst e; exact Int.le_refl _
    · have := ih (by omega) (by omega)
      have := h j hj
      omega
theorem up_lt {f : Nat → Int} {n : Nat} (h : ∀ i, i + 1 < n → f i < f (i + 1)) {i j : Nat} (hij : i < j) (hj : j < n) : f i < f j := by
  have := up_le h (show i ≤ j - 1 by omega) (by omega)
  have := h (j - 1) (by omega)
  rw [show j - 1 + 1 = j by omega] at this
  omega

/-- a value that a curve has: the reference finds it where the program does -/
theorem where_inv_at {ks : List (Int × Int)} {y : Int} (hw : wayK ks ≠ 0) {i : Nat} (hi : i < ks.length) (h1 : whereAt ks y i = true) (h2 : ∀ j, j < i → whereAt ks y j = false) : whereV ks y i = invOf ks y := by
  have hne : ∀ j, j + 1 < ks.length → ky ks (j + 1) - ky ks j ≠ 0 := fun j hj => by
    rcases way_cases ks with h | h | h
    · have := way_up h hj; omega
    · have := way_down h hj; omega
    · exact absurd h hw
  by_cases h0 : i = 0
  · subst h0
    have hy : ky ks 0 = y := by simpa [whereAt] using h1
    unfold whereV
    rw [if_pos hy]
    unfold invOf
    by_cases hl : 1 < ks.length
    · have e : firstPc ks (atV ks y) = some 0 := by
        apply firstPc_eq hl
        · simp [atV]; omega
        · intro j hj; omega
      rw [e]
      dsimp only
      have e2 : invK ks y 0 = kx ks 0 * riseK ks 0 := by
        unfold invK
        rw [hy]; simp
      rw [e2]
      have := lo_whole' (a := kx ks 0) (r := riseK ks 0) (hne 0 hl)
      rw [this.1, this.2]
    · have e : firstPc ks (atV ks y) = none := firstPc_none_of (fun j hj => by omega)
      rw [e]
      dsimp only
      have := lo_whole' (a := kx ks 0) (r := 1) (by decide)
      rw [Int.mul_one] at this
      rw [this.1, this.2]
  · obtain ⟨k, rfl⟩ : ∃ k, i = k + 1 := ⟨i - 1, by omega⟩
    have hk := hne k hi
    have e : firstPc ks (atV ks y) = some k := by
      apply firstPc_eq hi
      · simp [whereAt] at h1
        simp [atV]; omega
      · intro j hj
        -- y lies neither at a knot up to k, nor between two of them
        have g0 := h2 j (by omega)
        have g1 := h2 (j + 1) (by omega)
        simp [whereAt] at g0 g1
        simp [atV]
        omega
    unfold invOf
    rw [e]
    dsimp only
    unfold whereV
    simp only [Nat.add_sub_cancel]
    by_cases hy : ky ks (k + 1) = y
    · rw [if_pos hy]
      have e2 : invK ks y k = kx ks (k + 1) * riseK ks k := by
        unfold invK riseK runK
        rw [← hy, Int.mul_comm (ky ks (k + 1) - ky ks k), ← Int.add_mul]
        congr 1
        omega
      rw [e2]
      have := lo_whole' (a := kx ks (k + 1)) (r := riseK ks k) hk
      rw [this.1, this.2]
    · rw [if_neg hy]
      simp [whereAt, hy] at h1
      by_cases hlt : ky ks k < y
      · rw [if_pos hlt]
        rfl
      · rw [if_neg hlt]
        have hd : riseK ks k < 0 := by unfold riseK; omega
        have := lo_neg (n := invK ks y k) hd
        have e3 : -invK ks y k = kx ks k * (ky ks k - ky ks (k + 1)) + (ky ks k - y) * (kx ks (k + 1) - kx ks k) := by
          unfold invK riseK runK
          rw [Int.neg_add, ← Int.mul_neg, ← Int.neg_mul]
          congr 2 <;> omega
        have e4 : -riseK ks k = ky ks k - ky ks (k + 1) := by unfold riseK; omega
        rw [e3, e4] at this
        rw [this.1, this.2]

/-- a value that no knot has, nor any piece, lies beyond all -/
theorem where_none {ks : List (Int × Int)} {y : Int} (hne : 0 < ks.length) (h2 : ∀ j, j < ks.length → whereAt ks y j = false) : y < hLo ks ∨ hHi ks < y := by
  have g0 := h2 0 hne
  simp [whereAt] at g0
  by_cases hlt : ky ks 0 < y
  · have : ∀ j, j < ks.length → ky ks j < y := fun j => by
      induction j with
      | zero => intro _; exact hlt
      | succ j ih =>
        intro hj
        have g1 := h2 (j + 1) hj
        have := ih (by omega)
        simp [whereAt] at g1
        omega
    have := this (ks.length - 1) (by omega)
    right; unfold hHi; omega
  · have : ∀ j, j < ks.length → y < ky ks j := fun j => by
      induction j with
      | zero => intro _; omega
      | succ j ih =>
        intro hj
        have g1 := h2 (j + 1) hj
        have := ih (by omega)
        simp [whereAt] at g1
        omega
    have := this (ks.length - 1) (by omega)
    left; unfold hLo; omega
theorem where_range {ks : List (Int × Int)} {y : Int} (hw : wayK ks ≠ 0) {i : Nat} (hi : i < ks.length) (h1 : whereAt ks y i = true) : ¬ (y < hLo ks ∨ hHi ks < y) := by
  simp [whereAt] at h1
  rcases way_cases ks with h | h | h
  · have u : ∀ {a b : Nat}, a ≤ b → b < ks.length → ky ks a ≤ ky ks b := fun hab hb => up_le (f := ky ks) (fun i hi => way_up h hi) hab hb
    have a1 := u (Nat.zero_le i) hi
    have a2 := u (show i ≤ ks.length - 1 by omega) (by omega)
    have a3 := u (Nat.zero_le (i - 1)) (by omega)
    have a4 := u (show i - 1 ≤ i by omega) hi
    unfold hLo hHi
    omega
  · have u : ∀ {a b : Nat}, a ≤ b → b < ks.length → -ky ks a ≤ -ky ks b := fun hab hb => up_le (f := fun i => -ky ks i) (fun i hi => by have := way_down h hi; omega) hab hb
    have a1 := u (Nat.zero_le i) hi
    have a2 := u (show i ≤ ks.length - 1 by omega) (by omega)
    have a3 := u (Nat.zero_le (i - 1)) (by omega)
    have a4 := u (show i - 1 ≤ i by omega) hi
    unfold hLo hHi
    omega
  · exact absurd h hw
/-- what the reference finds -/
theorem whereOf_eq {ks : List (Int × Int)} {y : Int} (hw : wayK ks ≠ 0) (hne : 0 < ks.length) : whereOf ks y = if y < hLo ks ∨ hHi ks < y then none else some (invOf ks y) := by
  unfold whereOf
  cases h : (List.range ks.length).find? (whereAt ks y) with
  | none =>
    rw [List.find?_eq_none] at h
    rw [if_pos (where_none hne (fun j hj => by simpa using h j (List.mem_range.2 hj)))]
    rfl
  | some i =>
    obtain ⟨h1, h2, h3⟩ := List.find?_range_eq_some.1 h
    have hi := List.mem_range.1 h2
    rw [if_neg (where_range hw hi h1)]
    show some (whereV ks y i) = _
    rw [where_inv_at hw hi h1 (fun j hj => by simpa using h3 j hj)]
end Go.Proofs.Ytcmjmdjhpmlomaa
