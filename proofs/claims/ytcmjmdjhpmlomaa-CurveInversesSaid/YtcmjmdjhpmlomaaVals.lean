
/- The contracts of Value and Over. -/
import Derived.Test.YtcmjmdjhpmlomaaOver
namespace Go.Proofs.Ytcmjmdjhpmlomaa
open Go.RowKit

theorem dLo_kx {ks : List (Int × Int)} : dLo ks = kx ks 0 := rfl
theorem dHi_kx {ks : List (Int × Int)} : dHi ks = kx ks (ks.length - 1) := rfl
theorem Vd.dom {ks err lo hi} (v : Vd ks err) (h : inDom ks lo hi = true) : 0 ≤ lo ∧ hi ≤ 2000 := by
  simp only [inDom, Bool.and_eq_true, decide_eq_true_eq] at h
  have hp := v.pos
  have h1 := v.kx0 hp
  have h2 := v.kx1 (show ks.length - 1 < ks.length by omega)
  rw [dLo_kx, dHi_kx] at h
  omega

def valueR (ks : List (Int × Int)) (err x : Int) : FE :=
  if chk ks err = 0 then (if inDom ks x x = true then ⟨valN ks x, valD ks x, 0⟩ else ⟨0, 0, 3⟩) else ⟨0, 0, chk ks err⟩

/-- a peak and an error -/
structure PE where
  p : Pk
  e : Int
def Pk.val (p : Pk) : Value := .agg #[.int .i64 p.ln, .int .i64 p.ld, .int .i64 p.hn, .int .i64 p.hd, .int .i64 p.al, .int .i64 p.ah]
def PE.val (r : PE) : Value := .tuple #[r.p.val, .int .i64 r.e]
def overR (ks : List (Int × Int)) (err lo hi : Int) : PE :=
  if errOn ks err lo hi = 0 then ⟨overK ks lo hi, 0⟩ else ⟨⟨0, 0, 0, 0, 0, 0⟩, errOn ks err lo hi⟩

end Go.Proofs.Ytcmjmdjhpmlomaa
