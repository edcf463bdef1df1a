
/- The contracts of Inverse and Reach. -/
import Derived.Test.YtcmjmdjhpmlomaaInv
import Derived.BigRegion
namespace Go.Proofs.Ytcmjmdjhpmlomaa
open Go.RowKit

theorem Vd.hBd {ks err} (v : Vd ks err) : -65536 ≤ hLo ks ∧ hLo ks ≤ hHi ks ∧ hHi ks ≤ 65536 := by
  have hp := v.pos
  have h1 := v.ky0 hp
  have h2 := v.ky1 hp
  have h3 := v.ky0 (show ks.length - 1 < ks.length by omega)
  have h4 := v.ky1 (show ks.length - 1 < ks.length by omega)
  unfold hLo hHi
  omega

def inverseR (ks : List (Int × Int)) (err y : Int) : FE :=
  if chk ks err = 0 then (if wayK ks = 0 then ⟨0, 0, 4⟩ else if y < hLo ks ∨ hHi ks < y then ⟨0, 0, 3⟩ else ⟨(invOf ks y).1, (invOf ks y).2, 0⟩) else ⟨0, 0, chk ks err⟩

end Go.Proofs.Ytcmjmdjhpmlomaa
