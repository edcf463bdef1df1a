
/- What Reach answers, and the contract where it answers an error. -/
import Derived.Test.YtcmjmdjhpmlomaaReach
namespace Go.Proofs.Ytcmjmdjhpmlomaa
open Go.RowKit

/-! Reach -/
structure RE where
  a : Int
  b : Int
  c : Int
  d : Int
  e : Int
def RE.val (r : RE) : Value := .tuple #[.agg #[.int .i64 r.a, .int .i64 r.b, .int .i64 r.c, .int .i64 r.d], .int .i64 r.e]
def badSp (lo hi : Int) : Bool := decide (hi < lo) || !inB lo 131072 || !inB hi 131072
def reachR (ks : List (Int × Int)) (err lo hi : Int) : RE :=
  if chk ks err = 0 then
    (if badSp lo hi = true then ⟨0, 0, 0, 0, 1⟩ else if wayK ks = 0 then ⟨0, 0, 0, 0, 4⟩
     else if min (hHi ks) (hi + err) < max (hLo ks) (lo - err) then ⟨0, 0, 0, 0, 5⟩
     else if wayK ks < 0 then ⟨(invOf ks (min (hHi ks) (hi + err))).1, (invOf ks (min (hHi ks) (hi + err))).2, (invOf ks (max (hLo ks) (lo - err))).1, (invOf ks (max (hLo ks) (lo - err))).2, 0⟩
     else ⟨(invOf ks (max (hLo ks) (lo - err))).1, (invOf ks (max (hLo ks) (lo - err))).2, (invOf ks (min (hHi ks) (hi + err))).1, (invOf ks (min (hHi ks) (hi + err))).2, 0⟩)
  else ⟨0, 0, 0, 0, chk ks err⟩

structure SpOk (lo hi : Int) : Prop where
  h1 : decide (lo ≤ hi) = true
  h2 : inB lo 131072 = true
  h3 : inB hi 131072 = true
  g1 : -131072 ≤ lo
  g2 : lo ≤ hi
  g3 : hi ≤ 131072

end Go.Proofs.Ytcmjmdjhpmlomaa
