
/- Contracts of package curve's functions on numbers and fractions. -/
import Derived.Test.YtcmjmdjhpmlomaaProg
import Derived.Test.YtcmjmdjhpmlomaaBase
namespace Go.Proofs.Ytcmjmdjhpmlomaa
open Go.RowKit

/-! cmp -/
/-- the products do not wrap -/
structure Small (a b : Int) : Prop where
  n1 : -1099511627776 ≤ a
  n2 : a ≤ 1099511627776
  d1 : -4194304 ≤ b
  d2 : b ≤ 4194304

theorem Small.mul {a b c d : Int} (h1 : Small a b) (h2 : Small c d) : -4611686018427387904 ≤ a * d ∧ a * d ≤ 4611686018427387904 :=
  mul_bd h1.n1 h1.n2 h2.d1 h2.d2
theorem Small.den {a b c d : Int} (h1 : Small a b) (h2 : Small c d) : -17592186044416 ≤ b * d ∧ b * d ≤ 17592186044416 :=
  mul_bd h1.d1 h1.d2 h2.d1 h2.d2

/-! pieces and lines: (x0, y0) to (x1, y1) -/
/-- a line through (x0, y0), and a number: nothing wraps -/
structure LineOk (x0 y0 ri ru : Int) : Prop where
  a1 : -4000 ≤ x0
  a2 : x0 ≤ 4000
  b1 : -200000 ≤ y0
  b2 : y0 ≤ 200000
  c1 : -200000 ≤ ri
  c2 : ri ≤ 200000
  d1 : 0 < ru
  d2 : ru ≤ 4000

theorem loN_bd {n d B : Int} (h : -B ≤ n) (h2 : n ≤ B) : -B ≤ loN n d ∧ loN n d ≤ B := tdiv_bd h h2
/-- a fraction and an error -/
structure FE where
  n : Int
  d : Int
  e : Int
def FE.val (r : FE) : Value := .tuple #[.agg #[.int .i64 r.n, .int .i64 r.d], .int .i64 r.e]
end Go.Proofs.Ytcmjmdjhpmlomaa
