/- Plain facts of layer 9: lists of letters, what a chair picks. No walk, no number of a function. -/
import Derived.Test.YtahmlgiogbnifaaLp
namespace Go.Proofs.Ytahmlgiogbnifaa
/-- the place of the first letter that passes a test -/
def idxF (t : Le → Bool) : List Le → Nat → Int
  | [], _ => -1
  | x :: r, k => if t x = true then (k : Int) else idxF t r (k + 1)
theorem idxF_any {t : Le → Bool} : ∀ {l : List Le} {k : Nat}, decide (idxF t l k ≥ 0) = l.any t
  | [], _ => by simp [idxF]
  | x :: r, k => by
    rw [idxF, List.any_cons]
    cases h : t x
    · simpa using idxF_any
    · simp
/-- the error of a court and letters -/
def errL (c : Int) (l : List Le) : Int := bif crt c then (if 2000 < l.length then 2 else bif l.any (fun x => !frmB c x) then 7 else 0) else 1
theorem errL_ok {c : Int} {l : List Le} (h : errL c l = 0) : crt c = true ∧ l.length ≤ 2000 ∧ ∀ x ∈ l, frmB c x = true := by
  unfold errL at h
  cases hc : crt c
  · rw [hc] at h; simp at h
  · rw [hc] at h
    simp only [cond_true] at h
    split at h
    · simp at h
    · cases ha : l.any (fun x => !frmB c x)
      · refine ⟨rfl, by omega, fun x hx => ?_⟩
        rw [List.any_eq_false] at ha
        simpa using ha x hx
      · rw [ha] at h; simp at h
def atL (l : List Le) (i : Nat) : Le := l[i]?.getD default
/-- a letter against one that was there before: two promises that do not agree -/
def badB (x y : Le) : Bool := decide (y.fr = x.fr) || (decide (y.vo = x.vo) && !decide (y.fi = x.fi))
def badR (x y : Le) : Bool := decide (y.fr = x.fr) || (decide (y.vo > 0) && (decide (y.vo = x.vo) && !decide (y.fi = x.fi)))
theorem bad_eq {c : Int} {x y : Le} (hx : frmB c x = true) (hy : frmB c y = true) (kx : x.kd = 2) (ky : y.kd = 2) : badR x y = badB x y := by
  unfold frmB kindB at hx hy
  simp only [kx, ky] at hx hy
  simp [inB] at hx hy
  obtain ⟨_, _, hx1, hx2⟩ := hx
  obtain ⟨_, _, hy1, hy2⟩ := hy
  unfold badR badB
  rw [Bool.eq_iff_iff]
  simp
  by_cases h1 : y.fr = x.fr
  · simp [h1]
  · simp only [h1, false_or]
    constructor
    · rintro ⟨_, h2, h3⟩; exact ⟨h2, h3⟩
    · rintro ⟨h2, h3⟩
      refine ⟨?_, h2, h3⟩
      rcases hy2 with h | h
      · exact h
      · rcases hx2 with h' | h'
        · omega
        · exact absurd (h.trans h'.symm) h3
/-- letter i is a promise of the first one's case and round, and agrees with those before it -/
def headA (l : List Le) (i : Nat) : Bool := decide ((atL l i).kd = 2) && (decide ((atL l i).cs = (atL l 0).cs) && decide ((atL l i).rd = (atL l 0).rd))
def okA (l : List Le) (i : Nat) : Bool := headA l i && !(l.take i).any (badB (atL l i))
def agB (l : List Le) : Bool := (List.range l.length).all (okA l)
theorem agB_yes {l : List Le} (h : ∀ i, i < l.length → okA l i = true) : agB l = true := List.all_eq_true.2 fun i hi => h i (List.mem_range.1 hi)
theorem agB_no {l : List Le} {i : Nat} (hi : i < l.length) (h : okA l i = false) : agB l = false := List.all_eq_false.2 ⟨i, List.mem_range.2 hi, by simp [h]⟩
/-- the promise that binds, among the first k -/
def bestL (l : List Le) : Nat → Le
  | 0 => default
  | k + 1 => if (atL l k).vo > (bestL l k).vo then atL l k else bestL l k
def pkN (c : Int) (l : List Le) : Int := if errL c l ≠ 0 ∨ agB l = false ∨ (l.length : Int) < maj c then 0 else (bestL l l.length).fi
def pkB (c : Int) (l : List Le) : Bool := if errL c l ≠ 0 ∨ agB l = false ∨ (l.length : Int) < maj c then false else decide ((bestL l l.length).vo > 0)
def pkE (c : Int) (l : List Le) : Int := if errL c l ≠ 0 then errL c l else if agB l = false then 1 else if (l.length : Int) < maj c then 5 else 0
theorem any_take_at {l : List Le} {t : Le → Bool} {i k : Nat} (hk : k < i) (hi : i ≤ l.length) (h : t (atL l k) = true) : (l.take i).any t = true := by
  rw [List.any_eq_true]
  refine ⟨atL l k, ?_, h⟩
  unfold atL
  rw [List.getElem?_eq_getElem (by omega), Option.getD_some, List.mem_iff_getElem]
  exact ⟨k, by rw [List.length_take]; omega, by rw [List.getElem_take]⟩
theorem any_take_none {l : List Le} {t : Le → Bool} {i : Nat} (hi : i ≤ l.length) (h : ∀ k, k < i → t (atL l k) = false) : (l.take i).any t = false := by
  rw [List.any_eq_false]
  intro x hx
  obtain ⟨k, hk, rfl⟩ := List.mem_iff_getElem.1 hx
  rw [List.length_take] at hk
  have := h k (by omega)
  unfold atL at this
  rw [List.getElem?_eq_getElem (by omega), Option.getD_some] at this
  rw [List.getElem_take, this]
  simp
theorem less_succ' {p : Nat → Prop} {k : Nat} (h : ∀ i, i < k → p i) (hk : p k) : ∀ i, i < k + 1 → p i := fun i hi => by
  by_cases q : i = k
  · subst q; exact hk
  · exact h i (by omega)
end Go.Proofs.Ytahmlgiogbnifaa
