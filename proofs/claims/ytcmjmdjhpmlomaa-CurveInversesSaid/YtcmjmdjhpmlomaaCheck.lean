
/- Curves in memory; the contracts of Check, domain, covers and of the checks over lists. -/
import Derived.Test.YtcmjmdjhpmlomaaFrac
namespace Go.Proofs.Ytcmjmdjhpmlomaa
open Go.RowKit

/-- the slice at A holds the knots -/
def KnAt (w : World) (A : Option Addr) (ks : List (Int × Int)) : Prop :=
  ks ≠ [] → ∃ b off, A = some ⟨b, off, none⟩ ∧ b < w.heap.size ∧ ∀ i (h : i < ks.length), w.cell? ⟨b, off + i * 2, none⟩ = some (.int .i64 ks[i].1) ∧ w.cell? ⟨b, off + i * 2 + 1, none⟩ = some (.int .i64 ks[i].2)

theorem KnAt.below {w w' : World} {A : Option Addr} {ks : List (Int × Int)} (h : KnAt w A ks) (hb : Below w.heap.size w w') : KnAt w' A ks := fun hne => by
  obtain ⟨b, off, rfl, hlt, hc⟩ := h hne
  exact ⟨b, off, rfl, Nat.lt_of_lt_of_le hlt hb.size, fun i hi => ⟨(hb.cell (p := ⟨b, _, none⟩) hlt).trans (hc i hi).1, (hb.cell (p := ⟨b, _, none⟩) hlt).trans (hc i hi).2⟩⟩

def okFrom : Int → List (Int × Int) → Bool
  | _, [] => true
  | x, k :: r => decide (x < k.1) && decide (k.1 ≤ 2000) && inB k.2 65536 && okFrom k.1 r

def chk (ks : List (Int × Int)) (err : Int) : Int :=
  if 40 < ks.length then 2 else if ks.length = 0 ∨ err < 0 ∨ 4000 < err then 1 else if okFrom (-1) ks then 0 else 1

/-- the number that was met before -/
def before (ks : List (Int × Int)) (k : Nat) : Int := if k = 0 then -1 else ((ks[k - 1]?).getD (0, 0)).1

theorem okFrom_step {ks : List (Int × Int)} {k : Nat} (h : k < ks.length) :
    okFrom (before ks k) (ks.drop k) = (decide (before ks k < ks[k].1) && decide (ks[k].1 ≤ 2000) && inB ks[k].2 65536 && okFrom (before ks (k + 1)) (ks.drop (k + 1))) := by
  rw [List.drop_eq_getElem_cons h, okFrom]
  simp [before, h]

theorem chk_long {ks err} (h : 40 < ks.length) : chk ks err = 2 := by unfold chk; rw [if_pos h]
theorem chk_bad {ks err} (h : ¬ 40 < ks.length) (h2 : ks.length = 0 ∨ err < 0 ∨ 4000 < err) : chk ks err = 1 := by unfold chk; rw [if_neg h, if_pos h2]
theorem chk_ok {ks err} (h : ¬ 40 < ks.length) (h2 : ¬ (ks.length = 0 ∨ err < 0 ∨ 4000 < err)) : chk ks err = if okFrom (-1) ks then 0 else 1 := by unfold chk; rw [if_neg h, if_neg h2]

/-! valid curves -/
structure Vd (ks : List (Int × Int)) (err : Int) : Prop where
  ne : ks ≠ []
  le : ks.length ≤ 40
  e0 : 0 ≤ err
  e1 : err ≤ 4000
  ok : okFrom (-1) ks = true

theorem vd_of_chk {ks err} (h : chk ks err = 0) : Vd ks err := by
  unfold chk at h
  split at h
  · cases h
  split at h
  · cases h
  split at h
  · rename_i h1 h2 h3
    exact ⟨by rintro rfl; simp at h2, by omega, by omega, by omega, h3⟩
  · cases h
theorem Vd.chk {ks err} (h : Vd ks err) : chk ks err = 0 := by
  have h1 := h.le
  have h2 := h.e0
  have h3 := h.e1
  have h4 : ks.length ≠ 0 := by simpa using h.ne
  unfold Go.Proofs.Ytcmjmdjhpmlomaa.chk
  rw [if_neg (by omega), if_neg (by omega), if_pos h.ok]

theorem okFrom_bd {x : Int} {ks : List (Int × Int)} (h : okFrom x ks = true) : ∀ i (hi : i < ks.length), x < ks[i].1 ∧ ks[i].1 ≤ 2000 ∧ -65536 ≤ ks[i].2 ∧ ks[i].2 ≤ 65536 ∧ ∀ j (hj : j < i), ks[j].1 < ks[i].1 := by
  induction ks generalizing x with
  | nil => intro i hi; simp at hi
  | cons k r ih =>
    simp only [okFrom, Bool.and_eq_true, decide_eq_true_eq, inB] at h
    obtain ⟨⟨⟨h1, h2⟩, h3, h4⟩, h5⟩ := h
    intro i hi
    cases i with
    | zero => exact ⟨h1, h2, h3, h4, fun j hj => by omega⟩
    | succ i =>
      have := ih h5 i (by simpa using hi)
      obtain ⟨a, b, c, d, e⟩ := this
      refine ⟨by simp; omega, by simpa using b, by simpa using c, by simpa using d, fun j hj => ?_⟩
      cases j with
      | zero => simpa using a
      | succ j => simpa using e j (by omega)

theorem Vd.x0 {ks err} (h : Vd ks err) (i : Nat) (hi : i < ks.length) : 0 ≤ ks[i].1 := by have := (okFrom_bd h.ok i hi).1; omega
theorem Vd.x1 {ks err} (h : Vd ks err) (i : Nat) (hi : i < ks.length) : ks[i].1 ≤ 2000 := (okFrom_bd h.ok i hi).2.1
theorem Vd.y0 {ks err} (h : Vd ks err) (i : Nat) (hi : i < ks.length) : -65536 ≤ ks[i].2 := (okFrom_bd h.ok i hi).2.2.1
theorem Vd.y1 {ks err} (h : Vd ks err) (i : Nat) (hi : i < ks.length) : ks[i].2 ≤ 65536 := (okFrom_bd h.ok i hi).2.2.2.1
theorem Vd.lt {ks err} (h : Vd ks err) {j i : Nat} (hj : j < i) (hi : i < ks.length) : ks[j].1 < ks[i].1 := (okFrom_bd h.ok i hi).2.2.2.2 j hj
theorem Vd.pos {ks err} (h : Vd ks err) : 0 < ks.length := by have := h.ne; cases ks <;> simp_all

/-- the first and the last X -/
def dLo (ks : List (Int × Int)) : Int := (ks[0]?.getD (0, 0)).1
def dHi (ks : List (Int × Int)) : Int := (ks[ks.length - 1]?.getD (0, 0)).1

end Go.Proofs.Ytcmjmdjhpmlomaa
