/- Layer 9: Rulings. -/
import Derived.Test.YtilpinmbngikgaaTb
import Derived.Test.YtilpinmbngikgaaBo
namespace Go.Proofs.Ytilpinmbngikgaa
open Go.Proofs.Ytilpinmbngikgaa.Ev

theorem frm_fr {c : Int} {l : List Le} (h : errL c l = 0) : ∀ x ∈ l, 0 ≤ x.fr ∧ x.fr < c ∧ x.fr < 7 ∧ 0 < x.rd := fun x hx => by
  obtain ⟨h1, _, h2⟩ := errL_ok h
  have h3 := h2 x hx
  have hc := crt_bd h1
  unfold frmB headB at h3
  simp only [Bool.and_eq_true] at h3
  have h4 := arB_yes h3.1.2.2.2.2.1
  have h5 := inB_yes h3.1.2.2.1
  omega
/-- the rulings of letters, in order -/
def rlsOf (c : Int) (l : List Le) : List Rl3 := srtT (ofT c (tlN l l.length))
def rlsR (c : Int) (l : List Le) (u : AV) (L : Ob) : Prop := (errL c l ≠ 0 ∧ u = .tup [.slice0, .int .i64 (errL c l)]) ∨ (errL c l = 0 ∧ ∃ w, u = .tup [w, .int .i64 0] ∧ IsR 32 3 (rlsOf c l).length (enF rlC (rlsOf c l)) w L)
end Go.Proofs.Ytilpinmbngikgaa
