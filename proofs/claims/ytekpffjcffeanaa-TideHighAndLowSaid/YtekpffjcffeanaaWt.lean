/- Plain facts: high and low waters take turns. No walk. -/
import Derived.Test.YtekpffjcffeanaaWr
namespace Go.Proofs.Ytekpffjcffeanaa

/-- what the last turn was, seen from stand i: from there on the water goes the other way -/
structure Dir (l : List Sd) (i : Nat) (x : Int) : Prop where
  vals : x = 0 ∨ x = 1 ∨ x = -1
  pos : x ≠ 0 → 1 ≤ i
  down : x = 1 → i < l.length → (nthD l i).ht < (nthD l (i - 1)).ht
  up : x = -1 → i < l.length → (nthD l (i - 1)).ht < (nthD l i).ht
theorem turnB_true {l : List Sd} {i : Nat} (h : turnB l true i = true) : 1 ≤ i ∧ i + 1 < l.length ∧ (nthD l (i - 1)).ht < (nthD l i).ht ∧ (nthD l (i + 1)).ht < (nthD l i).ht := by
  unfold turnB bey at h
  simpa using h
theorem turnB_false {l : List Sd} {i : Nat} (h : turnB l false i = true) : 1 ≤ i ∧ i + 1 < l.length ∧ (nthD l i).ht < (nthD l (i - 1)).ht ∧ (nthD l i).ht < (nthD l (i + 1)).ht := by
  unfold turnB bey at h
  simpa using h
theorem dir_zero (l : List Sd) : Dir l 0 0 := ⟨.inl rfl, fun h => absurd rfl h, fun h => (by cases h), fun h => (by cases h)⟩
theorem dir_high {l : List Sd} {i : Nat} {x : Int} (k : Dir l i x) (h : turnB l true i = true) : x ≠ 1 ∧ turnB l false i = false ∧ Dir l (i + 1) 1 := by
  obtain ⟨h1, h2, h3, h4⟩ := turnB_true h
  refine ⟨fun e => ?_, ?_, ⟨.inr (.inl rfl), fun _ => by omega, fun _ _ => ?_, fun e => by cases e⟩⟩
  · have := k.down e (by omega)
    omega
  · cases hf : turnB l false i with
    | false => rfl
    | true =>
      obtain ⟨_, _, g3, _⟩ := turnB_false hf
      omega
  · rw [Nat.add_sub_cancel]
    exact h4
theorem dir_low {l : List Sd} {i : Nat} {x : Int} (k : Dir l i x) (h : turnB l false i = true) : x ≠ -1 ∧ turnB l true i = false ∧ Dir l (i + 1) (-1) := by
  obtain ⟨h1, h2, h3, h4⟩ := turnB_false h
  refine ⟨fun e => ?_, ?_, ⟨.inr (.inr rfl), fun _ => by omega, fun e => (by cases e), fun _ _ => ?_⟩⟩
  · have := k.up e (by omega)
    omega
  · cases hf : turnB l true i with
    | false => rfl
    | true =>
      obtain ⟨_, _, g3, _⟩ := turnB_true hf
      omega
  · rw [Nat.add_sub_cancel]
    exact h4
theorem dir_none {f : Nat → Int} {lo : Int} {m : Nat} {l : List Sd} (s : Stl f lo m l) {i : Nat} {x : Int} (k : Dir l i x) (hi : i < l.length) (h1 : turnB l true i = false) (h2 : turnB l false i = false) : Dir l (i + 1) x := by
  refine ⟨k.vals, fun _ => by omega, fun e hl => ?_, fun e hl => ?_⟩
  · rw [Nat.add_sub_cancel]
    have g1 := k.down e hi
    have g2 := k.pos (by omega)
    have g3 := (s.two i hl).2
    rcases Int.lt_trichotomy (nthD l (i + 1)).ht (nthD l i).ht with q | q | q
    · exact q
    · exact absurd q g3
    · exfalso
      have : turnB l false i = true := by
        unfold turnB bey
        simp
        exact ⟨g2, by omega, g1, q⟩
      rw [h2] at this
      cases this
  · rw [Nat.add_sub_cancel]
    have g1 := k.up e hi
    have g2 := k.pos (by omega)
    have g3 := (s.two i hl).2
    rcases Int.lt_trichotomy (nthD l (i + 1)).ht (nthD l i).ht with q | q | q
    · exfalso
      have : turnB l true i = true := by
        unfold turnB bey
        simp
        exact ⟨g2, by omega, g1, q⟩
      rw [h1] at this
      cases this
    · exact absurd q g3
    · exact q
end Go.Proofs.Ytekpffjcffeanaa
