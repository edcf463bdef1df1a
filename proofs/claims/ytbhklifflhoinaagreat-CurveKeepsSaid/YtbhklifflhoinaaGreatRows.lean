/-
  No cell of these rows narrows 'for every input' (looked for: loops, veiled, ifaces, maps, wideKeys, modest, calm, conditions, laid).
  DERIVED. THE GIVEN ROWS OF THIS SEAT. 3 by the template 'for every input the law returns true; each argument reads behind the call as it read before'; 0 by the template 'total and deterministic' (their statements: YtbhklifflhoinaaGreatTotals.lean).
  GIVEN WITH THE SEED: the statements are not yours to turn. If you find one false, say at which input.
  Laid BY PROGRAM, IN A SANDBOX (cutbox-rows.mjs): the forced cells as the released guide's own fill.sh prints them over the translation e5df48781a36239b… (all of the seat's roots in one cut). By AI agents, Wed Nov 11 2026. No macro, syntax, notation, axiom, sorry.
-/
import Derived.Test.YtbhklifflhoinaaGreatChecked
import GoSem.Claim
import GoSem.ClaimJoined
import GoSem.ClaimMapViews
import Derived.JoinedTies
import Derived.KernelRfl
namespace Go.Proofs.YtbhklifflhoinaaGreat
/- THE CELL 'sum', in the pinned program and in every row, IS THE sha256 OF THE DUMP (.gsa) THAT YtbhklifflhoinaaGreatProg.lean LOADS. Nothing in Lean hashes anything: it is a label: what it is worth is what the hold of that sum in a sandbox is worth. -/
noncomputable def Tryz.pinned : Pinned := { name := "ytbhklifflhoinaagreat", sum := "e5df48781a36239b283263a2025d7eb09bf8d4b7456d90afae726238a0eb7827", checked := Tryz.checked }
namespace Rows
def none {H : Type} : Left H := { results := [], args := [] }

/-- 'kentledgelaw01.CurveChanges': WHATEVER THE INPUT: true; the input reads as it did. -/
def curveChangesSpec : ChangeSpec := { name := "curveChanges", fn := fun _ => fun
  | [d1, d2, d3] => { results := [.lit (.bool true)], args := [d1, d2, d3] }
  | _ => none }
def curveChangesRow : OpenClaim := { program := "ytbhklifflhoinaagreat", sum := "e5df48781a36239b283263a2025d7eb09bf8d4b7456d90afae726238a0eb7827", func := "kentledge/kentledgelaw01.CurveChanges", spec := "curveChanges", unfollowed := true, recurses := true, apart := false }
def CurveChangesSaid : Prop := curveChangesRow.holds Tryz.pinned (OpenSpec.ofChange curveChangesSpec)

/-- ITS FALSE NEIGHBOUR: 'it returns false'. Refute it at one input. -/
def curveChangesWrong : ChangeSpec := { name := "curveChanges", fn := fun _ => fun
  | [d1, d2, d3] => { results := [.lit (.bool false)], args := [d1, d2, d3] }
  | _ => none }
def CurveChangesWrongFalsely : Prop := curveChangesRow.holds Tryz.pinned (OpenSpec.ofChange curveChangesWrong)

/-- 'kentledgelaw01.CurvePairs': WHATEVER THE INPUT: true; the input reads as it did. -/
def curvePairsSpec : ChangeSpec := { name := "curvePairs", fn := fun _ => fun
  | [d1, d2, d3] => { results := [.lit (.bool true)], args := [d1, d2, d3] }
  | _ => none }
def curvePairsRow : OpenClaim := { program := "ytbhklifflhoinaagreat", sum := "e5df48781a36239b283263a2025d7eb09bf8d4b7456d90afae726238a0eb7827", func := "kentledge/kentledgelaw01.CurvePairs", spec := "curvePairs", unfollowed := true, recurses := true, apart := false }
def CurvePairsSaid : Prop := curvePairsRow.holds Tryz.pinned (OpenSpec.ofChange curvePairsSpec)

/-- ITS FALSE NEIGHBOUR: 'it returns false'. Refute it at one input. -/
def curvePairsWrong : ChangeSpec := { name := "curvePairs", fn := fun _ => fun
  | [d1, d2, d3] => { results := [.lit (.bool false)], args := [d1, d2, d3] }
  | _ => none }
def CurvePairsWrongFalsely : Prop := curvePairsRow.holds Tryz.pinned (OpenSpec.ofChange curvePairsWrong)

/-- 'kentledgelaw01.CurveKeeps': WHATEVER THE INPUT: true; the input reads as it did. -/
def curveKeepsSpec : ChangeSpec := { name := "curveKeeps", fn := fun _ => fun
  | [d1, d2, d3, d4, d5] => { results := [.lit (.bool true)], args := [d1, d2, d3, d4, d5] }
  | _ => none }
def curveKeepsRow : OpenClaim := { program := "ytbhklifflhoinaagreat", sum := "e5df48781a36239b283263a2025d7eb09bf8d4b7456d90afae726238a0eb7827", func := "kentledge/kentledgelaw01.CurveKeeps", spec := "curveKeeps", unfollowed := true, recurses := true, apart := false }
def CurveKeepsSaid : Prop := curveKeepsRow.holds Tryz.pinned (OpenSpec.ofChange curveKeepsSpec)

/-- ITS FALSE NEIGHBOUR: 'it returns false'. Refute it at one input. -/
def curveKeepsWrong : ChangeSpec := { name := "curveKeeps", fn := fun _ => fun
  | [d1, d2, d3, d4, d5] => { results := [.lit (.bool false)], args := [d1, d2, d3, d4, d5] }
  | _ => none }
def CurveKeepsWrongFalsely : Prop := curveKeepsRow.holds Tryz.pinned (OpenSpec.ofChange curveKeepsWrong)

/- THE SECOND FORM. 'bulk': how many values and letters a reading holds, each counted each time it is reached (what is shared counts as often as it is met; a slice's spare places count too). A statement '..UptoSaid' is the law's where the arguments, and the package variables that the reading takes, are together of bulk at most 1048576: NARROWER than '..Said'. Prove '..Said' where nothing that the law and all that it calls make is longer than what came in: it says more and counts as full. Else prove '..UptoSaid'. A law counts once. -/
mutual
def uptoBulk {H : Type} : DataW H → Nat
  | .lit (.string bytes) => bytes.length + 1
  | .lit _ => 1
  | .nil => 1
  | .ptr d => uptoBulk d + 1
  | .slice elems spare => uptoBulkAll elems + uptoBulkAll spare + 1
  | .agg parts => uptoBulkAll parts + 1
  | .iface _ d => uptoBulk d + 1
  | .map entries => uptoBulkEntries entries + 1
  | .held _ => 1
def uptoBulkAll {H : Type} : List (DataW H) → Nat
  | [] => 0
  | d :: r => uptoBulk d + uptoBulkAll r
def uptoBulkEntries {H : Type} : List (Lit × DataW H) → Nat
  | [] => 0
  | x :: r => uptoBulkEntry x + uptoBulkEntries r
def uptoBulkEntry {H : Type} : Lit × DataW H → Nat
  | (.string bytes, d) => bytes.length + uptoBulk d + 1
  | (_, d) => uptoBulk d + 1
 end
def uptoSmall : (H : Type) → List (DataW H) → Bool := fun _ ds => decide (uptoBulkAll ds ≤ 1048576)
def OpenSpec.upto (s : _root_.Go.ChangeSpec) : _root_.Go.OpenSpec := { _root_.Go.OpenSpec.ofChange s with cond := some uptoSmall }

/-- 'kentledgelaw01.CurveChanges', WHERE WHAT IT READS IS OF BULK AT MOST 1048576: true; the input reads as it did. -/
def curveChangesUptoRow : OpenClaim := { program := "ytbhklifflhoinaagreat", sum := "e5df48781a36239b283263a2025d7eb09bf8d4b7456d90afae726238a0eb7827", func := "kentledge/kentledgelaw01.CurveChanges", spec := "curveChanges", unfollowed := true, recurses := true, apart := false, narrowed := true }
def CurveChangesUptoSaid : Prop := curveChangesUptoRow.holds Tryz.pinned (OpenSpec.upto curveChangesSpec)

/-- 'kentledgelaw01.CurvePairs', WHERE WHAT IT READS IS OF BULK AT MOST 1048576: true; the input reads as it did. -/
def curvePairsUptoRow : OpenClaim := { program := "ytbhklifflhoinaagreat", sum := "e5df48781a36239b283263a2025d7eb09bf8d4b7456d90afae726238a0eb7827", func := "kentledge/kentledgelaw01.CurvePairs", spec := "curvePairs", unfollowed := true, recurses := true, apart := false, narrowed := true }
def CurvePairsUptoSaid : Prop := curvePairsUptoRow.holds Tryz.pinned (OpenSpec.upto curvePairsSpec)

/-- 'kentledgelaw01.CurveKeeps', WHERE WHAT IT READS IS OF BULK AT MOST 1048576: true; the input reads as it did. -/
def curveKeepsUptoRow : OpenClaim := { program := "ytbhklifflhoinaagreat", sum := "e5df48781a36239b283263a2025d7eb09bf8d4b7456d90afae726238a0eb7827", func := "kentledge/kentledgelaw01.CurveKeeps", spec := "curveKeeps", unfollowed := true, recurses := true, apart := false, narrowed := true }
def CurveKeepsUptoSaid : Prop := curveKeepsUptoRow.holds Tryz.pinned (OpenSpec.upto curveKeepsSpec)

end Rows
end Go.Proofs.YtbhklifflhoinaaGreat
