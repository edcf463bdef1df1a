/-
  No cell of these rows narrows 'for every input' (looked for: loops, veiled, ifaces, maps, wideKeys, modest, calm, conditions, laid).
  DERIVED. THE GIVEN ROWS OF THIS SEAT. 6 by the template 'for every input the law returns true; each argument reads behind the call as it read before'; 0 by the template 'total and deterministic' (their statements: YtilpinmbngikgaaTotals.lean).
  GIVEN WITH THE SEED: the statements are not yours to turn. If you find one false, say at which input.
  Laid BY PROGRAM, IN A SANDBOX (cutbox-rows.mjs): the forced cells as the released guide's own fill.sh prints them over the translation fefd19f9bda24a23… (all of the seat's roots in one cut). By AI agents, Wed Nov 11 2026. No macro, syntax, notation, axiom, sorry.
-/
import Derived.Test.YtilpinmbngikgaaChecked
import GoSem.Claim
import GoSem.ClaimJoined
import GoSem.ClaimMapViews
import Derived.JoinedTies
import Derived.KernelRfl
namespace Go.Proofs.Ytilpinmbngikgaa
/- THE CELL 'sum', in the pinned program and in every row, IS THE sha256 OF THE DUMP (.gsa) THAT YtilpinmbngikgaaProg.lean LOADS. Nothing in Lean hashes anything: it is a label: what it is worth is what the hold of that sum in a sandbox is worth. -/
noncomputable def Try.pinned : Pinned := { name := "ytilpinmbngikgaa", sum := "fefd19f9bda24a2321e7782b865134d654c3548d9e0293e8c321a24d57513377", checked := Try.checked }
namespace Rows
def none {H : Type} : Left H := { results := [], args := [] }

/-- 'kentledgelaw09.ArbiterLawful': WHATEVER THE INPUT: true; the input reads as it did. -/
def arbiterLawfulSpec : ChangeSpec := { name := "arbiterLawful", fn := fun _ => fun
  | [d1, d2] => { results := [.lit (.bool true)], args := [d1, d2] }
  | _ => none }
def arbiterLawfulRow : OpenClaim := { program := "ytilpinmbngikgaa", sum := "fefd19f9bda24a2321e7782b865134d654c3548d9e0293e8c321a24d57513377", func := "kentledge/kentledgelaw09.ArbiterLawful", spec := "arbiterLawful", unfollowed := true, recurses := true, plainKeys := false, apart := false }
def ArbiterLawfulSaid : Prop := arbiterLawfulRow.holds Try.pinned (OpenSpec.ofChange arbiterLawfulSpec)

/-- ITS FALSE NEIGHBOUR: 'it returns false'. Refute it at one input. -/
def arbiterLawfulWrong : ChangeSpec := { name := "arbiterLawful", fn := fun _ => fun
  | [d1, d2] => { results := [.lit (.bool false)], args := [d1, d2] }
  | _ => none }
def ArbiterLawfulWrongFalsely : Prop := arbiterLawfulRow.holds Try.pinned (OpenSpec.ofChange arbiterLawfulWrong)

/-- 'kentledgelaw09.ArbiterChecks': WHATEVER THE INPUT: true; the input reads as it did. -/
def arbiterChecksSpec : ChangeSpec := { name := "arbiterChecks", fn := fun _ => fun
  | [d1, d2, d3, d4, d5, d6] => { results := [.lit (.bool true)], args := [d1, d2, d3, d4, d5, d6] }
  | _ => none }
def arbiterChecksRow : OpenClaim := { program := "ytilpinmbngikgaa", sum := "fefd19f9bda24a2321e7782b865134d654c3548d9e0293e8c321a24d57513377", func := "kentledge/kentledgelaw09.ArbiterChecks", spec := "arbiterChecks", unfollowed := true, recurses := true, plainKeys := false, apart := false }
def ArbiterChecksSaid : Prop := arbiterChecksRow.holds Try.pinned (OpenSpec.ofChange arbiterChecksSpec)

/-- ITS FALSE NEIGHBOUR: 'it returns false'. Refute it at one input. -/
def arbiterChecksWrong : ChangeSpec := { name := "arbiterChecks", fn := fun _ => fun
  | [d1, d2, d3, d4, d5, d6] => { results := [.lit (.bool false)], args := [d1, d2, d3, d4, d5, d6] }
  | _ => none }
def ArbiterChecksWrongFalsely : Prop := arbiterChecksRow.holds Try.pinned (OpenSpec.ofChange arbiterChecksWrong)

/-- 'kentledgelaw09.ArbiterOnce': WHATEVER THE INPUT: true; the input reads as it did. -/
def arbiterOnceSpec : ChangeSpec := { name := "arbiterOnce", fn := fun _ => fun
  | [d1, d2] => { results := [.lit (.bool true)], args := [d1, d2] }
  | _ => none }
def arbiterOnceRow : OpenClaim := { program := "ytilpinmbngikgaa", sum := "fefd19f9bda24a2321e7782b865134d654c3548d9e0293e8c321a24d57513377", func := "kentledge/kentledgelaw09.ArbiterOnce", spec := "arbiterOnce", unfollowed := true, recurses := true, plainKeys := false, apart := false }
def ArbiterOnceSaid : Prop := arbiterOnceRow.holds Try.pinned (OpenSpec.ofChange arbiterOnceSpec)

/-- ITS FALSE NEIGHBOUR: 'it returns false'. Refute it at one input. -/
def arbiterOnceWrong : ChangeSpec := { name := "arbiterOnce", fn := fun _ => fun
  | [d1, d2] => { results := [.lit (.bool false)], args := [d1, d2] }
  | _ => none }
def ArbiterOnceWrongFalsely : Prop := arbiterOnceRow.holds Try.pinned (OpenSpec.ofChange arbiterOnceWrong)

/-- 'kentledgelaw09.ArbiterBound': WHATEVER THE INPUT: true; the input reads as it did. -/
def arbiterBoundSpec : ChangeSpec := { name := "arbiterBound", fn := fun _ => fun
  | [d1, d2] => { results := [.lit (.bool true)], args := [d1, d2] }
  | _ => none }
def arbiterBoundRow : OpenClaim := { program := "ytilpinmbngikgaa", sum := "fefd19f9bda24a2321e7782b865134d654c3548d9e0293e8c321a24d57513377", func := "kentledge/kentledgelaw09.ArbiterBound", spec := "arbiterBound", unfollowed := true, recurses := true, plainKeys := false, apart := false }
def ArbiterBoundSaid : Prop := arbiterBoundRow.holds Try.pinned (OpenSpec.ofChange arbiterBoundSpec)

/-- ITS FALSE NEIGHBOUR: 'it returns false'. Refute it at one input. -/
def arbiterBoundWrong : ChangeSpec := { name := "arbiterBound", fn := fun _ => fun
  | [d1, d2] => { results := [.lit (.bool false)], args := [d1, d2] }
  | _ => none }
def ArbiterBoundWrongFalsely : Prop := arbiterBoundRow.holds Try.pinned (OpenSpec.ofChange arbiterBoundWrong)

/-- 'kentledgelaw09.ArbiterProves': WHATEVER THE INPUT: true; the input reads as it did. -/
def arbiterProvesSpec : ChangeSpec := { name := "arbiterProves", fn := fun _ => fun
  | [d1, d2, d3, d4] => { results := [.lit (.bool true)], args := [d1, d2, d3, d4] }
  | _ => none }
def arbiterProvesRow : OpenClaim := { program := "ytilpinmbngikgaa", sum := "fefd19f9bda24a2321e7782b865134d654c3548d9e0293e8c321a24d57513377", func := "kentledge/kentledgelaw09.ArbiterProves", spec := "arbiterProves", unfollowed := true, recurses := true, plainKeys := false, apart := false }
def ArbiterProvesSaid : Prop := arbiterProvesRow.holds Try.pinned (OpenSpec.ofChange arbiterProvesSpec)

/-- ITS FALSE NEIGHBOUR: 'it returns false'. Refute it at one input. -/
def arbiterProvesWrong : ChangeSpec := { name := "arbiterProves", fn := fun _ => fun
  | [d1, d2, d3, d4] => { results := [.lit (.bool false)], args := [d1, d2, d3, d4] }
  | _ => none }
def ArbiterProvesWrongFalsely : Prop := arbiterProvesRow.holds Try.pinned (OpenSpec.ofChange arbiterProvesWrong)

/-- 'kentledgelaw09.ArbiterRepeats': WHATEVER THE INPUT: true; the input reads as it did. -/
def arbiterRepeatsSpec : ChangeSpec := { name := "arbiterRepeats", fn := fun _ => fun
  | [d1, d2, d3, d4, d5, d6, d7] => { results := [.lit (.bool true)], args := [d1, d2, d3, d4, d5, d6, d7] }
  | _ => none }
def arbiterRepeatsRow : OpenClaim := { program := "ytilpinmbngikgaa", sum := "fefd19f9bda24a2321e7782b865134d654c3548d9e0293e8c321a24d57513377", func := "kentledge/kentledgelaw09.ArbiterRepeats", spec := "arbiterRepeats", unfollowed := true, recurses := true, plainKeys := false, apart := false }
def ArbiterRepeatsSaid : Prop := arbiterRepeatsRow.holds Try.pinned (OpenSpec.ofChange arbiterRepeatsSpec)

/-- ITS FALSE NEIGHBOUR: 'it returns false'. Refute it at one input. -/
def arbiterRepeatsWrong : ChangeSpec := { name := "arbiterRepeats", fn := fun _ => fun
  | [d1, d2, d3, d4, d5, d6, d7] => { results := [.lit (.bool false)], args := [d1, d2, d3, d4, d5, d6, d7] }
  | _ => none }
def ArbiterRepeatsWrongFalsely : Prop := arbiterRepeatsRow.holds Try.pinned (OpenSpec.ofChange arbiterRepeatsWrong)

/- THE SECOND FORM. 'bulk': how many values and letters a reading holds, each counted each time it is reached (what is shared counts as often as it is met; a slice's spare places count too). A statement '..UptoSaid' is the law's where the arguments, and the package variables that the reading takes, are together of bulk at most 1048576: NARROWER than '..Said'. Prove '..Said' where nothing that the law and all that it calls make is longer than what came in: it says more and counts as full. Else prove '..UptoSaid'. A law counts once. -/
mutual
def uptoBulk {H : Type} : DataW H → Nat
  | .lit (.string bytes) => bytes.length + 1
  | .lit _ => 1
  | .nil => 1
  | .ptr d => uptoBulk d + 1
  | .slice elems spare => uptoBulkAll elems + uptoBulkAll spare + 1
  | .agg parts => uptoBulkAll parts + 1
  | .iface _ d => uptoBulk d + 1
  | .map entries => uptoBulkEntries entries + 1
  | .held _ => 1
def uptoBulkAll {H : Type} : List (DataW H) → Nat
  | [] => 0
  | d :: r => uptoBulk d + uptoBulkAll r
def uptoBulkEntries {H : Type} : List (Lit × DataW H) → Nat
  | [] => 0
  | x :: r => uptoBulkEntry x + uptoBulkEntries r
def uptoBulkEntry {H : Type} : Lit × DataW H → Nat
  | (.string bytes, d) => bytes.length + uptoBulk d + 1
  | (_, d) => uptoBulk d + 1
 end
def uptoSmall : (H : Type) → List (DataW H) → Bool := fun _ ds => decide (uptoBulkAll ds ≤ 1048576)
def OpenSpec.upto (s : _root_.Go.ChangeSpec) : _root_.Go.OpenSpec := { _root_.Go.OpenSpec.ofChange s with cond := some uptoSmall }

/-- 'kentledgelaw09.ArbiterLawful', WHERE WHAT IT READS IS OF BULK AT MOST 1048576: true; the input reads as it did. -/
def arbiterLawfulUptoRow : OpenClaim := { program := "ytilpinmbngikgaa", sum := "fefd19f9bda24a2321e7782b865134d654c3548d9e0293e8c321a24d57513377", func := "kentledge/kentledgelaw09.ArbiterLawful", spec := "arbiterLawful", unfollowed := true, recurses := true, plainKeys := false, apart := false, narrowed := true }
def ArbiterLawfulUptoSaid : Prop := arbiterLawfulUptoRow.holds Try.pinned (OpenSpec.upto arbiterLawfulSpec)

/-- 'kentledgelaw09.ArbiterChecks', WHERE WHAT IT READS IS OF BULK AT MOST 1048576: true; the input reads as it did. -/
def arbiterChecksUptoRow : OpenClaim := { program := "ytilpinmbngikgaa", sum := "fefd19f9bda24a2321e7782b865134d654c3548d9e0293e8c321a24d57513377", func := "kentledge/kentledgelaw09.ArbiterChecks", spec := "arbiterChecks", unfollowed := true, recurses := true, plainKeys := false, apart := false, narrowed := true }
def ArbiterChecksUptoSaid : Prop := arbiterChecksUptoRow.holds Try.pinned (OpenSpec.upto arbiterChecksSpec)

/-- 'kentledgelaw09.ArbiterOnce', WHERE WHAT IT READS IS OF BULK AT MOST 1048576: true; the input reads as it did. -/
def arbiterOnceUptoRow : OpenClaim := { program := "ytilpinmbngikgaa", sum := "fefd19f9bda24a2321e7782b865134d654c3548d9e0293e8c321a24d57513377", func := "kentledge/kentledgelaw09.ArbiterOnce", spec := "arbiterOnce", unfollowed := true, recurses := true, plainKeys := false, apart := false, narrowed := true }
def ArbiterOnceUptoSaid : Prop := arbiterOnceUptoRow.holds Try.pinned (OpenSpec.upto arbiterOnceSpec)

/-- 'kentledgelaw09.ArbiterBound', WHERE WHAT IT READS IS OF BULK AT MOST 1048576: true; the input reads as it did. -/
def arbiterBoundUptoRow : OpenClaim := { program := "ytilpinmbngikgaa", sum := "fefd19f9bda24a2321e7782b865134d654c3548d9e0293e8c321a24d57513377", func := "kentledge/kentledgelaw09.ArbiterBound", spec := "arbiterBound", unfollowed := true, recurses := true, plainKeys := false, apart := false, narrowed := true }
def ArbiterBoundUptoSaid : Prop := arbiterBoundUptoRow.holds Try.pinned (OpenSpec.upto arbiterBoundSpec)

/-- 'kentledgelaw09.ArbiterProves', WHERE WHAT IT READS IS OF BULK AT MOST 1048576: true; the input reads as it did. -/
def arbiterProvesUptoRow : OpenClaim := { program := "ytilpinmbngikgaa", sum := "fefd19f9bda24a2321e7782b865134d654c3548d9e0293e8c321a24d57513377", func := "kentledge/kentledgelaw09.ArbiterProves", spec := "arbiterProves", unfollowed := true, recurses := true, plainKeys := false, apart := false, narrowed := true }
def ArbiterProvesUptoSaid : Prop := arbiterProvesUptoRow.holds Try.pinned (OpenSpec.upto arbiterProvesSpec)

/-- 'kentledgelaw09.ArbiterRepeats', WHERE WHAT IT READS IS OF BULK AT MOST 1048576: true; the input reads as it did. -/
def arbiterRepeatsUptoRow : OpenClaim := { program := "ytilpinmbngikgaa", sum := "fefd19f9bda24a2321e7782b865134d654c3548d9e0293e8c321a24d57513377", func := "kentledge/kentledgelaw09.ArbiterRepeats", spec := "arbiterRepeats", unfollowed := true, recurses := true, plainKeys := false, apart := false, narrowed := true }
def ArbiterRepeatsUptoSaid : Prop := arbiterRepeatsUptoRow.holds Try.pinned (OpenSpec.upto arbiterRepeatsSpec)

end Rows
end Go.Proofs.Ytilpinmbngikgaa
