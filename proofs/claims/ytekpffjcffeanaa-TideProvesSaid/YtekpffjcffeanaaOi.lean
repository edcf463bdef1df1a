/- Ints that are an argument: what they read as. -/
import Derived.Test.YtekpffjcffeanaaOpw
namespace Go.Proofs.Ytekpffjcffeanaa
open Go.ChangeShapes Go.WideShapes Go.ChangeAt Go.RowKit Go.Deep Go.Proofs.Ytekpffjcffeanaa.Ev

set_option maxRecDepth 100000 in
theorem cell_okwI {W : World} {r : Reach} {b0 : Nat} {t e : TypeId} {v : Value} (ht : Try.prog.underlying t = some (.slice e)) (h : Value.okWide Try.prog W r b0 t v) : Cell.okWide Try.prog W r b0 t v := by
  unfold Value.okWide at h
  rw [ht] at h
  exact h
set_option maxRecDepth 100000 in
theorem slice_of_cellsI {W : World} {r : Reach} {b0 : Nat} {t e : TypeId} {v : Value} {A : Option Addr} {n c : Nat} (ht : Try.prog.underlying t = some (.slice e)) (h : Cell.okWide Try.prog W r b0 t v) (e0 : v.cells.toList = [.slice A n c]) : v = .slice A n c := by
  unfold Cell.okWide at h
  rw [ht] at h
  simp only at h
  unfold Cell.ok at h
  rw [ht] at h
  cases v <;> first | (simp [Value.cells] at e0; done) | skip
  all_goals first | (simpa [Value.cells] using e0) | (simp at h; done)
section
variable {H : Type} {enc : TypeId × Value → H} {W : World} {base b0 : Nat} {spare : Nat → Bool} {held : Bool} {r : Reach}
set_option maxRecDepth 100000 in
theorem open_intsP {v : Value} {d : DataW H} {p : List MemPlace} (hv : Value.okWide Try.prog W r b0 26 v) (h : DataW.Trod enc Try.prog W base spare held 26 v d p) :
    ∃ (A : Option Addr) (c : Nat) (xs : List Int), v = .slice A xs.length c ∧ xs.length ≤ c ∧ ItAt W A xs ∧ SlOk W A xs.length c := by
  obtain ⟨n, hn⟩ := h
  obtain ⟨A, c, xs, e, hl, k⟩ := open_ints hn
  have hc := cell_okwI Try.underlying26 hv
  have e2 := slice_of_cellsI Try.underlying26 hc e
  subst e2
  exact ⟨A, c, xs, rfl, hl, k, slOk_of Try.underlying26 hc⟩
end
end Go.Proofs.Ytekpffjcffeanaa
