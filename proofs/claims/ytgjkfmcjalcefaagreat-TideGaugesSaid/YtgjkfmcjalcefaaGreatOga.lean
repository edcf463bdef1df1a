/- Gauges that may be sliced, as an argument. -/
import Derived.Test.YtgjkfmcjalcefaaGreatOg
import Derived.Test.YtgjkfmcjalcefaaGreatQg
namespace Go.Proofs.YtgjkfmcjalcefaaGreat
open Go.ChangeShapes Go.WideShapes Go.ChangeAt Go.RowKit Go.Deep Go.Proofs.YtgjkfmcjalcefaaGreat.Ev

theorem ga_absA {w : World} {A : Option Addr} {c : Nat} {l : List Ga} (hA : SlOk w A l.length c) (hl : l.length ≤ c) (hk : l ≠ [] → ∃ b off, A = some ⟨b, off, none⟩ ∧ b < w.heap.size ∧ GaH (absH w) b off l) : ∃ gv, GaA (absH w) gv l ∧ VR (idE w.heap.size) gv (.slice A l.length c) := by
  rcases hA with ⟨rfl, h0, rfl⟩ | ⟨b, off, rfl, C, t, fr, hC⟩
  · have : l = [] := List.length_eq_zero_iff.1 h0
    subst this
    exact ⟨.slice0, .inl ⟨.inl rfl, rfl⟩, by simp [VR]⟩
  · have hb := (Array.getElem?_eq_some_iff.1 hC).1
    refine ⟨.slice b off l.length (.k c), .inr ⟨b, off, c, rfl, hl, fun i hi => ?_⟩, by simp only [VR]; exact ⟨b, 0, if_pos hb, rfl⟩⟩
    obtain ⟨b', off', e, hb', hc⟩ := hk (by intro h; subst h; simp at hi)
    cases e
    exact hc i hi
end Go.Proofs.YtgjkfmcjalcefaaGreat
