/-
  No cell of these rows narrows 'for every input' (looked for: loops, veiled, ifaces, maps, wideKeys, modest, calm, conditions, laid).
  DERIVED. THE GIVEN ROWS OF THIS SEAT. 2 by the template 'for every input the law returns true; each argument reads behind the call as it read before'; 0 by the template 'total and deterministic' (their statements: YtahmlgiogbnifaaTotals.lean).
  GIVEN WITH THE SEED: the statements are not yours to turn. If you find one false, say at which input.
  Laid BY PROGRAM, IN A SANDBOX (cutbox-rows.mjs): the forced cells as the released guide's own fill.sh prints them over the translation b1b64da27c234b19… (all of the seat's roots in one cut). By AI agents, Wed Nov 11 2026. No macro, syntax, notation, axiom, sorry.
-/
import Derived.Test.YtahmlgiogbnifaaChecked
import GoSem.Claim
import GoSem.ClaimJoined
import GoSem.ClaimMapViews
import Derived.JoinedTies
import Derived.KernelRfl
namespace Go.Proofs.Ytahmlgiogbnifaa
/- THE CELL 'sum', in the pinned program and in every row, IS THE sha256 OF THE DUMP (.gsa) THAT YtahmlgiogbnifaaProg.lean LOADS. Nothing in Lean hashes anything: it is a label: what it is worth is what the hold of that sum in a sandbox is worth. -/
noncomputable def Try.pinned : Pinned := { name := "ytahmlgiogbnifaa", sum := "b1b64da27c234b19739482169afd8699e141fc4aef7f8d520013c8cae436d723", checked := Try.checked }
namespace Rows
def none {H : Type} : Left H := { results := [], args := [] }

/-- 'kentledgelaw09.ArbiterRules': WHATEVER THE INPUT: true; the input reads as it did. -/
def arbiterRulesSpec : ChangeSpec := { name := "arbiterRules", fn := fun _ => fun
  | [d1, d2, d3, d4, d5] => { results := [.lit (.bool true)], args := [d1, d2, d3, d4, d5] }
  | _ => none }
def arbiterRulesRow : OpenClaim := { program := "ytahmlgiogbnifaa", sum := "b1b64da27c234b19739482169afd8699e141fc4aef7f8d520013c8cae436d723", func := "kentledge/kentledgelaw09.ArbiterRules", spec := "arbiterRules", unfollowed := true, recurses := true, plainKeys := false, apart := false }
def ArbiterRulesSaid : Prop := arbiterRulesRow.holds Try.pinned (OpenSpec.ofChange arbiterRulesSpec)

/-- ITS FALSE NEIGHBOUR: 'it returns false'. Refute it at one input. -/
def arbiterRulesWrong : ChangeSpec := { name := "arbiterRules", fn := fun _ => fun
  | [d1, d2, d3, d4, d5] => { results := [.lit (.bool false)], args := [d1, d2, d3, d4, d5] }
  | _ => none }
def ArbiterRulesWrongFalsely : Prop := arbiterRulesRow.holds Try.pinned (OpenSpec.ofChange arbiterRulesWrong)

/-- 'kentledgelaw09.ArbiterPicks': WHATEVER THE INPUT: true; the input reads as it did. -/
def arbiterPicksSpec : ChangeSpec := { name := "arbiterPicks", fn := fun _ => fun
  | [d1, d2] => { results := [.lit (.bool true)], args := [d1, d2] }
  | _ => none }
def arbiterPicksRow : OpenClaim := { program := "ytahmlgiogbnifaa", sum := "b1b64da27c234b19739482169afd8699e141fc4aef7f8d520013c8cae436d723", func := "kentledge/kentledgelaw09.ArbiterPicks", spec := "arbiterPicks", unfollowed := true, recurses := true, plainKeys := false, apart := false }
def ArbiterPicksSaid : Prop := arbiterPicksRow.holds Try.pinned (OpenSpec.ofChange arbiterPicksSpec)

/-- ITS FALSE NEIGHBOUR: 'it returns false'. Refute it at one input. -/
def arbiterPicksWrong : ChangeSpec := { name := "arbiterPicks", fn := fun _ => fun
  | [d1, d2] => { results := [.lit (.bool false)], args := [d1, d2] }
  | _ => none }
def ArbiterPicksWrongFalsely : Prop := arbiterPicksRow.holds Try.pinned (OpenSpec.ofChange arbiterPicksWrong)

/- THE SECOND FORM. 'bulk': how many values and letters a reading holds, each counted each time it is reached (what is shared counts as often as it is met; a slice's spare places count too). A statement '..UptoSaid' is the law's where the arguments, and the package variables that the reading takes, are together of bulk at most 1048576: NARROWER than '..Said'. Prove '..Said' where nothing that the law and all that it calls make is longer than what came in: it says more and counts as full. Else prove '..UptoSaid'. A law counts once. -/
mutual
def uptoBulk {H : Type} : DataW H → Nat
  | .lit (.string bytes) => bytes.length + 1
  | .lit _ => 1
  | .nil => 1
  | .ptr d => uptoBulk d + 1
  | .slice elems spare => uptoBulkAll elems + uptoBulkAll spare + 1
  | .agg parts => uptoBulkAll parts + 1
  | .iface _ d => uptoBulk d + 1
  | .map entries => uptoBulkEntries entries + 1
  | .held _ => 1
def uptoBulkAll {H : Type} : List (DataW H) → Nat
  | [] => 0
  | d :: r => uptoBulk d + uptoBulkAll r
def uptoBulkEntries {H : Type} : List (Lit × DataW H) → Nat
  | [] => 0
  | x :: r => uptoBulkEntry x + uptoBulkEntries r
def uptoBulkEntry {H : Type} : Lit × DataW H → Nat
  | (.string bytes, d) => bytes.length + uptoBulk d + 1
  | (_, d) => uptoBulk d + 1
 end
def uptoSmall : (H : Type) → List (DataW H) → Bool := fun _ ds => decide (uptoBulkAll ds ≤ 1048576)
def OpenSpec.upto (s : _root_.Go.ChangeSpec) : _root_.Go.OpenSpec := { _root_.Go.OpenSpec.ofChange s with cond := some uptoSmall }

/-- 'kentledgelaw09.ArbiterRules', WHERE WHAT IT READS IS OF BULK AT MOST 1048576: true; the input reads as it did. -/
def arbiterRulesUptoRow : OpenClaim := { program := "ytahmlgiogbnifaa", sum := "b1b64da27c234b19739482169afd8699e141fc4aef7f8d520013c8cae436d723", func := "kentledge/kentledgelaw09.ArbiterRules", spec := "arbiterRules", unfollowed := true, recurses := true, plainKeys := false, apart := false, narrowed := true }
def ArbiterRulesUptoSaid : Prop := arbiterRulesUptoRow.holds Try.pinned (OpenSpec.upto arbiterRulesSpec)

/-- 'kentledgelaw09.ArbiterPicks', WHERE WHAT IT READS IS OF BULK AT MOST 1048576: true; the input reads as it did. -/
def arbiterPicksUptoRow : OpenClaim := { program := "ytahmlgiogbnifaa", sum := "b1b64da27c234b19739482169afd8699e141fc4aef7f8d520013c8cae436d723", func := "kentledge/kentledgelaw09.ArbiterPicks", spec := "arbiterPicks", unfollowed := true, recurses := true, plainKeys := false, apart := false, narrowed := true }
def ArbiterPicksUptoSaid : Prop := arbiterPicksUptoRow.holds Try.pinned (OpenSpec.upto arbiterPicksSpec)

end Rows
end Go.Proofs.Ytahmlgiogbnifaa
