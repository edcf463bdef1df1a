/- Levels, against, Rests of the program. -/
import Derived.Test.YtgjkfmcjalcefaaGreatQb
namespace Go.Proofs.YtgjkfmcjalcefaaGreat
open Go.Proofs.YtgjkfmcjalcefaaGreat.Ev

theorem chkGs_w {lv cs ss l} (h : chkGs lv cs ss l = 0) : WOk lv cs ss ∧ l.length ≤ 40 ∧ ∀ x ∈ l, GaOk x := by
  unfold chkGs at h
  split at h
  · rename_i q
    exact absurd h q
  · rename_i q
    split at h
    · cases h
    · exact ⟨chkW_ok (by simpa using q), by omega, chkG_all h⟩
end Go.Proofs.YtgjkfmcjalcefaaGreat
