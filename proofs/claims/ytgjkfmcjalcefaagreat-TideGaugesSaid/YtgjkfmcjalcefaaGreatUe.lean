/- The law TideAgain over the calculator's memory. -/
import Derived.Test.YtgjkfmcjalcefaaGreatUd
namespace Go.Proofs.YtgjkfmcjalcefaaGreat
open Go.Proofs.YtgjkfmcjalcefaaGreat.Ev

theorem CyV.ok {h : Heap} {v : AV} {l : List Cw} (k : CyV h v l) : okCell v = true := by
  rcases k with ⟨rfl | rfl, _⟩ | ⟨b, off, c, rfl, _⟩ <;> rfl
theorem ShV.ok {h : Heap} {v : AV} {l : List Sh} (k : ShV h v l) : okCell v = true := by
  rcases k with ⟨rfl | rfl, _⟩ | ⟨b, off, c, rfl, _⟩ <;> rfl
end Go.Proofs.YtgjkfmcjalcefaaGreat
