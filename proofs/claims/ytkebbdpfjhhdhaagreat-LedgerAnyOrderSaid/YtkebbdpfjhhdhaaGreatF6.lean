/- Layer 8: the reference's sorted. -/
import Derived.Test.YtkebbdpfjhhdhaaGreatFs
import Derived.Test.YtkebbdpfjhhdhaaGreatDr
import Derived.Test.YtkebbdpfjhhdhaaGreatFv
/- Layer 8, plain: books as known on two days; lists that are checked. -/
namespace Go.Proofs.YtkebbdpfjhhdhaaGreat
open Go.Proofs.YtkebbdpfjhhdhaaGreat.Ev

/-- a list without an error -/
structure ChkP (l : List Im) : Prop where
  len : l.length ≤ 60
  fr : ∀ x ∈ l, frmI x = true
  id : ∀ x ∈ l, ∀ y ∈ l, x.id = y.id → x = y
theorem errI_p : ∀ {l pre : List Im}, (∀ x ∈ l, frmI x = true) → (∀ x ∈ pre ++ l, ∀ y ∈ pre ++ l, x.id = y.id → x = y) → errI pre l = 0
  | [], _, _, _ => rfl
  | x :: r, pre, h1, h2 => by
    unfold errI
    rw [if_neg (by rw [h1 x (List.mem_cons_self ..)]; simp), if_neg ?_]
    · exact errI_p (fun y hy => h1 y (List.mem_cons_of_mem _ hy)) (by simpa using h2)
    · intro h3
      obtain ⟨y, hy, h4⟩ := List.any_eq_true.1 h3
      simp only [twI, Bool.and_eq_true, decide_eq_true_eq, Bool.not_eq_true', decide_eq_false_iff_not] at h4
      exact h4.2 (h2 y (List.mem_append_left _ hy) x (List.mem_append_right _ (List.mem_cons_self ..)) h4.1)
theorem chk_iff {l : List Im} : chkI l = 0 ↔ ChkP l := by
  constructor
  · intro h
    obtain ⟨h1, h2, h3⟩ := chk_ok h
    refine ⟨h1, h3, ?_⟩
    unfold chkI at h
    rw [if_neg (by omega)] at h
    obtain ⟨_, h4⟩ := errI_ok h
    have key : ∀ i j (hi : i < l.length) (hj : j < l.length), i < j → l[i].id = l[j].id → l[i] = l[j] := fun i j hi hj hij e => by
      have := h4 j hj
      rw [List.nil_append, List.any_eq_false] at this
      have h3 := this l[i] (List.mem_iff_getElem.2 ⟨i, by rw [List.length_take]; omega, by simp⟩)
      simpa [twI, e] using h3
    intro x hx y hy e
    obtain ⟨i, hi, rfl⟩ := List.mem_iff_getElem.1 hx
    obtain ⟨j, hj, rfl⟩ := List.mem_iff_getElem.1 hy
    rcases Nat.lt_trichotomy i j with h | h | h
    · exact key i j hi hj h e
    · subst h; rfl
    · exact (key j i hj hi h e.symm).symm
  · intro k
    have := k.len
    unfold chkI
    rw [if_neg (by omega)]
    exact errI_p k.fr (by simpa using k.id)
theorem ChkP.one {l : List Im} (k : ChkP l) : OneJ l := one_of_chk (chk_iff.2 k)
theorem ChkP.filter {l : List Im} (k : ChkP l) (p : Im → Bool) : ChkP (l.filter p) := ⟨Nat.le_trans (List.length_filter_le _ _) k.len, fun x hx => k.fr x (List.mem_filter.1 hx).1, fun x hx y hy => k.id x (List.mem_filter.1 hx).1 y (List.mem_filter.1 hy).1⟩
end Go.Proofs.YtkebbdpfjhhdhaaGreat

/- Layer 8: the reference's sorted. -/
namespace Go.Proofs.YtkebbdpfjhhdhaaGreat
open Go.Proofs.YtkebbdpfjhhdhaaGreat.Ev

end Go.Proofs.YtkebbdpfjhhdhaaGreat
