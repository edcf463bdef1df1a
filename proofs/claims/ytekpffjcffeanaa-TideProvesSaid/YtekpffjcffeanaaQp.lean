/- Plain facts of gauges: errors, levels. No walk. -/
import Derived.Test.YtekpffjcffeanaaUp
namespace Go.Proofs.Ytekpffjcffeanaa

structure Ga where
  id : Int
  tk : Int
  lo : Int
  hi : Int
def noG : Ga := ⟨0, 0, 0, 0⟩
def nthG (l : List Ga) (i : Nat) : Ga := l[i]?.getD noG
def gaOk (g : Ga) : Bool := (decide (1 ≤ g.id) && decide (g.id ≤ 1099511627776)) && ((decide (0 ≤ g.tk) && decide (g.tk ≤ 1048576)) && (decide (g.lo ≤ g.hi) && (decide (-40000 ≤ g.lo) && decide (g.hi ≤ 40000))))
structure GaOk (g : Ga) : Prop where
  id1 : 1 ≤ g.id
  id2 : g.id ≤ 1099511627776
  tk1 : 0 ≤ g.tk
  tk2 : g.tk ≤ 1048576
  le : g.lo ≤ g.hi
  lo : -40000 ≤ g.lo
  hi : g.hi ≤ 40000
def gids (l : List Ga) : List Int := l.map (·.id)
/-- the first error of gauges -/
def chkG (seen : List Int) : List Ga → Int
  | [] => 0
  | g :: r => if gaOk g = false then 1 else if g.id ∈ seen then 6 else chkG (seen ++ [g.id]) r
/-- the error of gauges of a water -/
def chkGs (level : Int) (cs : List Cy) (ss : List Sh) (l : List Ga) : Int :=
  if chkW level cs ss ≠ 0 then chkW level cs ss else if 40 < l.length then 2 else chkG [] l
/-- the levels with which a gauge agrees, and those of all -/
def lvG (cs : List Cy) (ss : List Sh) (g : Ga) : Int × Int := (max (-4000) (g.lo - bareV cs ss g.tk), min 4000 (g.hi - bareV cs ss g.tk))
def meetP (a b : Int × Int) : Int × Int := (max a.1 b.1, min a.2 b.2)
def comG (cs : List Cy) (ss : List Sh) (l : List Ga) : Int × Int := (l.map (lvG cs ss)).foldl meetP (-4000, 4000)
def levelsR (level : Int) (cs : List Cy) (ss : List Sh) (l : List Ga) : (Int × Int) × Int :=
  if chkGs level cs ss l ≠ 0 then ((0, 0), chkGs level cs ss l) else if (comG cs ss l).1 ≤ (comG cs ss l).2 then (comG cs ss l, 0) else ((0, 0), 9)
end Go.Proofs.Ytekpffjcffeanaa
