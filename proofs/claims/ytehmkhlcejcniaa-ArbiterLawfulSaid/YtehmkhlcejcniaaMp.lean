/- Plain facts of layer 9: lists of letters, what a chair picks. No walk, no number of a function. -/
import Derived.Test.YtehmkhlcejcniaaLp
namespace Go.Proofs.Ytehmkhlcejcniaa
/-- the place of the first letter that passes a test -/
def idxF (t : Le → Bool) : List Le → Nat → Int
  | [], _ => -1
  | x :: r, k => if t x = true then (k : Int) else idxF t r (k + 1)
theorem idxF_any {t : Le → Bool} : ∀ {l : List Le} {k : Nat}, decide (idxF t l k ≥ 0) = l.any t
  | [], _ => by simp [idxF]
  | x :: r, k => by
    rw [idxF, List.any_cons]
    cases h : t x
    · simpa using idxF_any
    · simp
/-- the error of a court and letters -/
def errL (c : Int) (l : List Le) : Int := bif crt c then (if 2000 < l.length then 2 else bif l.any (fun x => !frmB c x) then 7 else 0) else 1
theorem errL_ok {c : Int} {l : List Le} (h : errL c l = 0) : crt c = true ∧ l.length ≤ 2000 ∧ ∀ x ∈ l, frmB c x = true := by
  unfold errL at h
  cases hc : crt c
  · rw [hc] at h; simp at h
  · rw [hc] at h
    simp only [cond_true] at h
    split at h
    · simp at h
    · cases ha : l.any (fun x => !frmB c x)
      · refine ⟨rfl, by omega, fun x hx => ?_⟩
        rw [List.any_eq_false] at ha
        simpa using ha x hx
      · rw [ha] at h; simp at h
def atL (l : List Le) (i : Nat) : Le := l[i]?.getD default
/-- a letter against one that was there before: two promises that do not agree -/
def badB (x y : Le) : Bool := decide (y.fr = x.fr) || (decide (y.vo = x.vo) && !decide (y.fi = x.fi))
def badR (x y : Le) : Bool := decide (y.fr = x.fr) || (decide (y.vo > 0) && (decide (y.vo = x.vo) && !decide (y.fi = x.fi)))
/-- letter i is a promise of the first one's case and round, and agrees with those before it -/
def headA (l : List Le) (i : Nat) : Bool := decide ((atL l i).kd = 2) && (decide ((atL l i).cs = (atL l 0).cs) && decide ((atL l i).rd = (atL l 0).rd))
def okA (l : List Le) (i : Nat) : Bool := headA l i && !(l.take i).any (badB (atL l i))
def agB (l : List Le) : Bool := (List.range l.length).all (okA l)
/-- the promise that binds, among the first k -/
def bestL (l : List Le) : Nat → Le
  | 0 => default
  | k + 1 => if (atL l k).vo > (bestL l k).vo then atL l k else bestL l k
def pkN (c : Int) (l : List Le) : Int := if errL c l ≠ 0 ∨ agB l = false ∨ (l.length : Int) < maj c then 0 else (bestL l l.length).fi
def pkB (c : Int) (l : List Le) : Bool := if errL c l ≠ 0 ∨ agB l = false ∨ (l.length : Int) < maj c then false else decide ((bestL l l.length).vo > 0)
def pkE (c : Int) (l : List Le) : Int := if errL c l ≠ 0 then errL c l else if agB l = false then 1 else if (l.length : Int) < maj c then 5 else 0
theorem any_take_none {l : List Le} {t : Le → Bool} {i : Nat} (hi : i ≤ l.length) (h : ∀ k, k < i → t (atL l k) = false) : (l.take i).any t = false := by
  rw [List.any_eq_false]
  intro x hx
  obtain ⟨k, hk, rfl⟩ := List.mem_iff_getElem.1 hx
  rw [List.length_take] at hk
  have := h k (by omega)
  unfold atL at this
  rw [List.getElem?_eq_getElem (by omega), Option.getD_some] at this
  rw [List.getElem_take, this]
  simp
theorem less_succ' {p : Nat → Prop} {k : Nat} (h : ∀ i, i < k → p i) (hk : p k) : ∀ i, i < k + 1 → p i := fun i hi => by
  by_cases q : i = k
  · subst q; exact hk
  · exact h i (by omega)
end Go.Proofs.Ytehmkhlcejcniaa
