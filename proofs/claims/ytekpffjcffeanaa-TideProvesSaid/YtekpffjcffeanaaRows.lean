/-
  No cell of these rows narrows 'for every input' (looked for: loops, veiled, ifaces, maps, wideKeys, modest, calm, conditions, laid).
  DERIVED. THE GIVEN ROWS OF THIS SEAT. 14 by the template 'for every input the law returns true; each argument reads behind the call as it read before'; 0 by the template 'total and deterministic' (their statements: YtekpffjcffeanaaTotals.lean).
  GIVEN WITH THE SEED: the statements are not yours to turn. If you find one false, say at which input.
  Laid BY PROGRAM, IN A SANDBOX (cutbox-rows.mjs): the forced cells as the released guide's own fill.sh prints them over the translation 76286bb52eaa6f61… (all of the seat's roots in one cut). By AI agents, Wed Nov 11 2026. No macro, syntax, notation, axiom, sorry.
-/
import Derived.Test.YtekpffjcffeanaaChecked
import GoSem.Claim
import GoSem.ClaimJoined
import GoSem.ClaimMapViews
import Derived.JoinedTies
import Derived.KernelRfl
namespace Go.Proofs.Ytekpffjcffeanaa
/- THE CELL 'sum', in the pinned program and in every row, IS THE sha256 OF THE DUMP (.gsa) THAT YtekpffjcffeanaaProg.lean LOADS. Nothing in Lean hashes anything: it is a label: what it is worth is what the hold of that sum in a sandbox is worth. -/
noncomputable def Try.pinned : Pinned := { name := "ytekpffjcffeanaa", sum := "76286bb52eaa6f61691bdab9aa10749e9683df21906860d7a0f27aa230b72877", checked := Try.checked }
namespace Rows
def none {H : Type} : Left H := { results := [], args := [] }

/-- 'kentledgelaw02.TideAgain': WHATEVER THE INPUT: true; the input reads as it did. -/
def tideAgainSpec : ChangeSpec := { name := "tideAgain", fn := fun _ => fun
  | [d1, d2, d3, d4, d5] => { results := [.lit (.bool true)], args := [d1, d2, d3, d4, d5] }
  | _ => none }
def tideAgainRow : OpenClaim := { program := "ytekpffjcffeanaa", sum := "76286bb52eaa6f61691bdab9aa10749e9683df21906860d7a0f27aa230b72877", func := "kentledge/kentledgelaw02.TideAgain", spec := "tideAgain", unfollowed := true, recurses := true, apart := false }
def TideAgainSaid : Prop := tideAgainRow.holds Try.pinned (OpenSpec.ofChange tideAgainSpec)

/-- ITS FALSE NEIGHBOUR: 'it returns false'. Refute it at one input. -/
def tideAgainWrong : ChangeSpec := { name := "tideAgain", fn := fun _ => fun
  | [d1, d2, d3, d4, d5] => { results := [.lit (.bool false)], args := [d1, d2, d3, d4, d5] }
  | _ => none }
def TideAgainWrongFalsely : Prop := tideAgainRow.holds Try.pinned (OpenSpec.ofChange tideAgainWrong)

/-- 'kentledgelaw02.TideWindowsHold': WHATEVER THE INPUT: true; the input reads as it did. -/
def tideWindowsHoldSpec : ChangeSpec := { name := "tideWindowsHold", fn := fun _ => fun
  | [d1, d2, d3, d4, d5] => { results := [.lit (.bool true)], args := [d1, d2, d3, d4, d5] }
  | _ => none }
def tideWindowsHoldRow : OpenClaim := { program := "ytekpffjcffeanaa", sum := "76286bb52eaa6f61691bdab9aa10749e9683df21906860d7a0f27aa230b72877", func := "kentledge/kentledgelaw02.TideWindowsHold", spec := "tideWindowsHold", unfollowed := true, recurses := true, apart := false }
def TideWindowsHoldSaid : Prop := tideWindowsHoldRow.holds Try.pinned (OpenSpec.ofChange tideWindowsHoldSpec)

/-- ITS FALSE NEIGHBOUR: 'it returns false'. Refute it at one input. -/
def tideWindowsHoldWrong : ChangeSpec := { name := "tideWindowsHold", fn := fun _ => fun
  | [d1, d2, d3, d4, d5] => { results := [.lit (.bool false)], args := [d1, d2, d3, d4, d5] }
  | _ => none }
def TideWindowsHoldWrongFalsely : Prop := tideWindowsHoldRow.holds Try.pinned (OpenSpec.ofChange tideWindowsHoldWrong)

/-- 'kentledgelaw02.TideHighAndLow': WHATEVER THE INPUT: true; the input reads as it did. -/
def tideHighAndLowSpec : ChangeSpec := { name := "tideHighAndLow", fn := fun _ => fun
  | [d1, d2] => { results := [.lit (.bool true)], args := [d1, d2] }
  | _ => none }
def tideHighAndLowRow : OpenClaim := { program := "ytekpffjcffeanaa", sum := "76286bb52eaa6f61691bdab9aa10749e9683df21906860d7a0f27aa230b72877", func := "kentledge/kentledgelaw02.TideHighAndLow", spec := "tideHighAndLow", unfollowed := true, recurses := true, apart := false }
def TideHighAndLowSaid : Prop := tideHighAndLowRow.holds Try.pinned (OpenSpec.ofChange tideHighAndLowSpec)

/-- ITS FALSE NEIGHBOUR: 'it returns false'. Refute it at one input. -/
def tideHighAndLowWrong : ChangeSpec := { name := "tideHighAndLow", fn := fun _ => fun
  | [d1, d2] => { results := [.lit (.bool false)], args := [d1, d2] }
  | _ => none }
def TideHighAndLowWrongFalsely : Prop := tideHighAndLowRow.holds Try.pinned (OpenSpec.ofChange tideHighAndLowWrong)

/-- 'kentledgelaw02.TideProofsHold': WHATEVER THE INPUT: true; the input reads as it did. -/
def tideProofsHoldSpec : ChangeSpec := { name := "tideProofsHold", fn := fun _ => fun
  | [d1, d2, d3, d4, d5] => { results := [.lit (.bool true)], args := [d1, d2, d3, d4, d5] }
  | _ => none }
def tideProofsHoldRow : OpenClaim := { program := "ytekpffjcffeanaa", sum := "76286bb52eaa6f61691bdab9aa10749e9683df21906860d7a0f27aa230b72877", func := "kentledge/kentledgelaw02.TideProofsHold", spec := "tideProofsHold", unfollowed := true, recurses := true, apart := false }
def TideProofsHoldSaid : Prop := tideProofsHoldRow.holds Try.pinned (OpenSpec.ofChange tideProofsHoldSpec)

/-- ITS FALSE NEIGHBOUR: 'it returns false'. Refute it at one input. -/
def tideProofsHoldWrong : ChangeSpec := { name := "tideProofsHold", fn := fun _ => fun
  | [d1, d2, d3, d4, d5] => { results := [.lit (.bool false)], args := [d1, d2, d3, d4, d5] }
  | _ => none }
def TideProofsHoldWrongFalsely : Prop := tideProofsHoldRow.holds Try.pinned (OpenSpec.ofChange tideProofsHoldWrong)

/-- 'kentledgelaw02.TideCyclesHold': WHATEVER THE INPUT: true; the input reads as it did. -/
def tideCyclesHoldSpec : ChangeSpec := { name := "tideCyclesHold", fn := fun _ => fun
  | [d1, d2, d3, d4] => { results := [.lit (.bool true)], args := [d1, d2, d3, d4] }
  | _ => none }
def tideCyclesHoldRow : OpenClaim := { program := "ytekpffjcffeanaa", sum := "76286bb52eaa6f61691bdab9aa10749e9683df21906860d7a0f27aa230b72877", func := "kentledge/kentledgelaw02.TideCyclesHold", spec := "tideCyclesHold", unfollowed := true, recurses := true, apart := false }
def TideCyclesHoldSaid : Prop := tideCyclesHoldRow.holds Try.pinned (OpenSpec.ofChange tideCyclesHoldSpec)

/-- ITS FALSE NEIGHBOUR: 'it returns false'. Refute it at one input. -/
def tideCyclesHoldWrong : ChangeSpec := { name := "tideCyclesHold", fn := fun _ => fun
  | [d1, d2, d3, d4] => { results := [.lit (.bool false)], args := [d1, d2, d3, d4] }
  | _ => none }
def TideCyclesHoldWrongFalsely : Prop := tideCyclesHoldRow.holds Try.pinned (OpenSpec.ofChange tideCyclesHoldWrong)

/-- 'kentledgelaw02.TideTrueWater': WHATEVER THE INPUT: true; the input reads as it did. -/
def tideTrueWaterSpec : ChangeSpec := { name := "tideTrueWater", fn := fun _ => fun
  | [d1, d2, d3, d4] => { results := [.lit (.bool true)], args := [d1, d2, d3, d4] }
  | _ => none }
def tideTrueWaterRow : OpenClaim := { program := "ytekpffjcffeanaa", sum := "76286bb52eaa6f61691bdab9aa10749e9683df21906860d7a0f27aa230b72877", func := "kentledge/kentledgelaw02.TideTrueWater", spec := "tideTrueWater", unfollowed := true, recurses := true, apart := false }
def TideTrueWaterSaid : Prop := tideTrueWaterRow.holds Try.pinned (OpenSpec.ofChange tideTrueWaterSpec)

/-- ITS FALSE NEIGHBOUR: 'it returns false'. Refute it at one input. -/
def tideTrueWaterWrong : ChangeSpec := { name := "tideTrueWater", fn := fun _ => fun
  | [d1, d2, d3, d4] => { results := [.lit (.bool false)], args := [d1, d2, d3, d4] }
  | _ => none }
def TideTrueWaterWrongFalsely : Prop := tideTrueWaterRow.holds Try.pinned (OpenSpec.ofChange tideTrueWaterWrong)

/-- 'kentledgelaw02.TideMoreGauges': WHATEVER THE INPUT: true; the input reads as it did. -/
def tideMoreGaugesSpec : ChangeSpec := { name := "tideMoreGauges", fn := fun _ => fun
  | [d1, d2, d3] => { results := [.lit (.bool true)], args := [d1, d2, d3] }
  | _ => none }
def tideMoreGaugesRow : OpenClaim := { program := "ytekpffjcffeanaa", sum := "76286bb52eaa6f61691bdab9aa10749e9683df21906860d7a0f27aa230b72877", func := "kentledge/kentledgelaw02.TideMoreGauges", spec := "tideMoreGauges", unfollowed := true, recurses := true, apart := false }
def TideMoreGaugesSaid : Prop := tideMoreGaugesRow.holds Try.pinned (OpenSpec.ofChange tideMoreGaugesSpec)

/-- ITS FALSE NEIGHBOUR: 'it returns false'. Refute it at one input. -/
def tideMoreGaugesWrong : ChangeSpec := { name := "tideMoreGauges", fn := fun _ => fun
  | [d1, d2, d3] => { results := [.lit (.bool false)], args := [d1, d2, d3] }
  | _ => none }
def TideMoreGaugesWrongFalsely : Prop := tideMoreGaugesRow.holds Try.pinned (OpenSpec.ofChange tideMoreGaugesWrong)

/-- 'kentledgelaw02.TideChecks': WHATEVER THE INPUT: true; the input reads as it did. -/
def tideChecksSpec : ChangeSpec := { name := "tideChecks", fn := fun _ => fun
  | [d1, d2, d3] => { results := [.lit (.bool true)], args := [d1, d2, d3] }
  | _ => none }
def tideChecksRow : OpenClaim := { program := "ytekpffjcffeanaa", sum := "76286bb52eaa6f61691bdab9aa10749e9683df21906860d7a0f27aa230b72877", func := "kentledge/kentledgelaw02.TideChecks", spec := "tideChecks", unfollowed := true, recurses := true, apart := false }
def TideChecksSaid : Prop := tideChecksRow.holds Try.pinned (OpenSpec.ofChange tideChecksSpec)

/-- ITS FALSE NEIGHBOUR: 'it returns false'. Refute it at one input. -/
def tideChecksWrong : ChangeSpec := { name := "tideChecks", fn := fun _ => fun
  | [d1, d2, d3] => { results := [.lit (.bool false)], args := [d1, d2, d3] }
  | _ => none }
def TideChecksWrongFalsely : Prop := tideChecksRow.holds Try.pinned (OpenSpec.ofChange tideChecksWrong)

/-- 'kentledgelaw02.TidePeaks': WHATEVER THE INPUT: true; the input reads as it did. -/
def tidePeaksSpec : ChangeSpec := { name := "tidePeaks", fn := fun _ => fun
  | [d1, d2] => { results := [.lit (.bool true)], args := [d1, d2] }
  | _ => none }
def tidePeaksRow : OpenClaim := { program := "ytekpffjcffeanaa", sum := "76286bb52eaa6f61691bdab9aa10749e9683df21906860d7a0f27aa230b72877", func := "kentledge/kentledgelaw02.TidePeaks", spec := "tidePeaks", unfollowed := true, recurses := true, apart := false }
def TidePeaksSaid : Prop := tidePeaksRow.holds Try.pinned (OpenSpec.ofChange tidePeaksSpec)

/-- ITS FALSE NEIGHBOUR: 'it returns false'. Refute it at one input. -/
def tidePeaksWrong : ChangeSpec := { name := "tidePeaks", fn := fun _ => fun
  | [d1, d2] => { results := [.lit (.bool false)], args := [d1, d2] }
  | _ => none }
def TidePeaksWrongFalsely : Prop := tidePeaksRow.holds Try.pinned (OpenSpec.ofChange tidePeaksWrong)

/-- 'kentledgelaw02.TideTurns': WHATEVER THE INPUT: true; the input reads as it did. -/
def tideTurnsSpec : ChangeSpec := { name := "tideTurns", fn := fun _ => fun
  | [d1, d2] => { results := [.lit (.bool true)], args := [d1, d2] }
  | _ => none }
def tideTurnsRow : OpenClaim := { program := "ytekpffjcffeanaa", sum := "76286bb52eaa6f61691bdab9aa10749e9683df21906860d7a0f27aa230b72877", func := "kentledge/kentledgelaw02.TideTurns", spec := "tideTurns", unfollowed := true, recurses := true, apart := false }
def TideTurnsSaid : Prop := tideTurnsRow.holds Try.pinned (OpenSpec.ofChange tideTurnsSpec)

/-- ITS FALSE NEIGHBOUR: 'it returns false'. Refute it at one input. -/
def tideTurnsWrong : ChangeSpec := { name := "tideTurns", fn := fun _ => fun
  | [d1, d2] => { results := [.lit (.bool false)], args := [d1, d2] }
  | _ => none }
def TideTurnsWrongFalsely : Prop := tideTurnsRow.holds Try.pinned (OpenSpec.ofChange tideTurnsWrong)

/-- 'kentledgelaw02.TideWindows': WHATEVER THE INPUT: true; the input reads as it did. -/
def tideWindowsSpec : ChangeSpec := { name := "tideWindows", fn := fun _ => fun
  | [d1, d2, d3, d4] => { results := [.lit (.bool true)], args := [d1, d2, d3, d4] }
  | _ => none }
def tideWindowsRow : OpenClaim := { program := "ytekpffjcffeanaa", sum := "76286bb52eaa6f61691bdab9aa10749e9683df21906860d7a0f27aa230b72877", func := "kentledge/kentledgelaw02.TideWindows", spec := "tideWindows", unfollowed := true, recurses := true, apart := false }
def TideWindowsSaid : Prop := tideWindowsRow.holds Try.pinned (OpenSpec.ofChange tideWindowsSpec)

/-- ITS FALSE NEIGHBOUR: 'it returns false'. Refute it at one input. -/
def tideWindowsWrong : ChangeSpec := { name := "tideWindows", fn := fun _ => fun
  | [d1, d2, d3, d4] => { results := [.lit (.bool false)], args := [d1, d2, d3, d4] }
  | _ => none }
def TideWindowsWrongFalsely : Prop := tideWindowsRow.holds Try.pinned (OpenSpec.ofChange tideWindowsWrong)

/-- 'kentledgelaw02.TideProves': WHATEVER THE INPUT: true; the input reads as it did. -/
def tideProvesSpec : ChangeSpec := { name := "tideProves", fn := fun _ => fun
  | [d1, d2, d3, d4] => { results := [.lit (.bool true)], args := [d1, d2, d3, d4] }
  | _ => none }
def tideProvesRow : OpenClaim := { program := "ytekpffjcffeanaa", sum := "76286bb52eaa6f61691bdab9aa10749e9683df21906860d7a0f27aa230b72877", func := "kentledge/kentledgelaw02.TideProves", spec := "tideProves", unfollowed := true, recurses := true, apart := false }
def TideProvesSaid : Prop := tideProvesRow.holds Try.pinned (OpenSpec.ofChange tideProvesSpec)

/-- ITS FALSE NEIGHBOUR: 'it returns false'. Refute it at one input. -/
def tideProvesWrong : ChangeSpec := { name := "tideProves", fn := fun _ => fun
  | [d1, d2, d3, d4] => { results := [.lit (.bool false)], args := [d1, d2, d3, d4] }
  | _ => none }
def TideProvesWrongFalsely : Prop := tideProvesRow.holds Try.pinned (OpenSpec.ofChange tideProvesWrong)

/-- 'kentledgelaw02.TideCycles': WHATEVER THE INPUT: true; the input reads as it did. -/
def tideCyclesSpec : ChangeSpec := { name := "tideCycles", fn := fun _ => fun
  | [d1, d2] => { results := [.lit (.bool true)], args := [d1, d2] }
  | _ => none }
def tideCyclesRow : OpenClaim := { program := "ytekpffjcffeanaa", sum := "76286bb52eaa6f61691bdab9aa10749e9683df21906860d7a0f27aa230b72877", func := "kentledge/kentledgelaw02.TideCycles", spec := "tideCycles", unfollowed := true, recurses := true, apart := false }
def TideCyclesSaid : Prop := tideCyclesRow.holds Try.pinned (OpenSpec.ofChange tideCyclesSpec)

/-- ITS FALSE NEIGHBOUR: 'it returns false'. Refute it at one input. -/
def tideCyclesWrong : ChangeSpec := { name := "tideCycles", fn := fun _ => fun
  | [d1, d2] => { results := [.lit (.bool false)], args := [d1, d2] }
  | _ => none }
def TideCyclesWrongFalsely : Prop := tideCyclesRow.holds Try.pinned (OpenSpec.ofChange tideCyclesWrong)

/-- 'kentledgelaw02.TideSame': WHATEVER THE INPUT: true; the input reads as it did. -/
def tideSameSpec : ChangeSpec := { name := "tideSame", fn := fun _ => fun
  | [d1, d2, d3] => { results := [.lit (.bool true)], args := [d1, d2, d3] }
  | _ => none }
def tideSameRow : OpenClaim := { program := "ytekpffjcffeanaa", sum := "76286bb52eaa6f61691bdab9aa10749e9683df21906860d7a0f27aa230b72877", func := "kentledge/kentledgelaw02.TideSame", spec := "tideSame", unfollowed := true, recurses := true, apart := false }
def TideSameSaid : Prop := tideSameRow.holds Try.pinned (OpenSpec.ofChange tideSameSpec)

/-- ITS FALSE NEIGHBOUR: 'it returns false'. Refute it at one input. -/
def tideSameWrong : ChangeSpec := { name := "tideSame", fn := fun _ => fun
  | [d1, d2, d3] => { results := [.lit (.bool false)], args := [d1, d2, d3] }
  | _ => none }
def TideSameWrongFalsely : Prop := tideSameRow.holds Try.pinned (OpenSpec.ofChange tideSameWrong)

/- THE SECOND FORM. 'bulk': how many values and letters a reading holds, each counted each time it is reached (what is shared counts as often as it is met; a slice's spare places count too). A statement '..UptoSaid' is the law's where the arguments, and the package variables that the reading takes, are together of bulk at most 1048576: NARROWER than '..Said'. Prove '..Said' where nothing that the law and all that it calls make is longer than what came in: it says more and counts as full. Else prove '..UptoSaid'. A law counts once. -/
mutual
def uptoBulk {H : Type} : DataW H → Nat
  | .lit (.string bytes) => bytes.length + 1
  | .lit _ => 1
  | .nil => 1
  | .ptr d => uptoBulk d + 1
  | .slice elems spare => uptoBulkAll elems + uptoBulkAll spare + 1
  | .agg parts => uptoBulkAll parts + 1
  | .iface _ d => uptoBulk d + 1
  | .map entries => uptoBulkEntries entries + 1
  | .held _ => 1
def uptoBulkAll {H : Type} : List (DataW H) → Nat
  | [] => 0
  | d :: r => uptoBulk d + uptoBulkAll r
def uptoBulkEntries {H : Type} : List (Lit × DataW H) → Nat
  | [] => 0
  | x :: r => uptoBulkEntry x + uptoBulkEntries r
def uptoBulkEntry {H : Type} : Lit × DataW H → Nat
  | (.string bytes, d) => bytes.length + uptoBulk d + 1
  | (_, d) => uptoBulk d + 1
 end
def uptoSmall : (H : Type) → List (DataW H) → Bool := fun _ ds => decide (uptoBulkAll ds ≤ 1048576)
def OpenSpec.upto (s : _root_.Go.ChangeSpec) : _root_.Go.OpenSpec := { _root_.Go.OpenSpec.ofChange s with cond := some uptoSmall }

/-- 'kentledgelaw02.TideAgain', WHERE WHAT IT READS IS OF BULK AT MOST 1048576: true; the input reads as it did. -/
def tideAgainUptoRow : OpenClaim := { program := "ytekpffjcffeanaa", sum := "76286bb52eaa6f61691bdab9aa10749e9683df21906860d7a0f27aa230b72877", func := "kentledge/kentledgelaw02.TideAgain", spec := "tideAgain", unfollowed := true, recurses := true, apart := false, narrowed := true }
def TideAgainUptoSaid : Prop := tideAgainUptoRow.holds Try.pinned (OpenSpec.upto tideAgainSpec)

/-- 'kentledgelaw02.TideWindowsHold', WHERE WHAT IT READS IS OF BULK AT MOST 1048576: true; the input reads as it did. -/
def tideWindowsHoldUptoRow : OpenClaim := { program := "ytekpffjcffeanaa", sum := "76286bb52eaa6f61691bdab9aa10749e9683df21906860d7a0f27aa230b72877", func := "kentledge/kentledgelaw02.TideWindowsHold", spec := "tideWindowsHold", unfollowed := true, recurses := true, apart := false, narrowed := true }
def TideWindowsHoldUptoSaid : Prop := tideWindowsHoldUptoRow.holds Try.pinned (OpenSpec.upto tideWindowsHoldSpec)

/-- 'kentledgelaw02.TideHighAndLow', WHERE WHAT IT READS IS OF BULK AT MOST 1048576: true; the input reads as it did. -/
def tideHighAndLowUptoRow : OpenClaim := { program := "ytekpffjcffeanaa", sum := "76286bb52eaa6f61691bdab9aa10749e9683df21906860d7a0f27aa230b72877", func := "kentledge/kentledgelaw02.TideHighAndLow", spec := "tideHighAndLow", unfollowed := true, recurses := true, apart := false, narrowed := true }
def TideHighAndLowUptoSaid : Prop := tideHighAndLowUptoRow.holds Try.pinned (OpenSpec.upto tideHighAndLowSpec)

/-- 'kentledgelaw02.TideProofsHold', WHERE WHAT IT READS IS OF BULK AT MOST 1048576: true; the input reads as it did. -/
def tideProofsHoldUptoRow : OpenClaim := { program := "ytekpffjcffeanaa", sum := "76286bb52eaa6f61691bdab9aa10749e9683df21906860d7a0f27aa230b72877", func := "kentledge/kentledgelaw02.TideProofsHold", spec := "tideProofsHold", unfollowed := true, recurses := true, apart := false, narrowed := true }
def TideProofsHoldUptoSaid : Prop := tideProofsHoldUptoRow.holds Try.pinned (OpenSpec.upto tideProofsHoldSpec)

/-- 'kentledgelaw02.TideCyclesHold', WHERE WHAT IT READS IS OF BULK AT MOST 1048576: true; the input reads as it did. -/
def tideCyclesHoldUptoRow : OpenClaim := { program := "ytekpffjcffeanaa", sum := "76286bb52eaa6f61691bdab9aa10749e9683df21906860d7a0f27aa230b72877", func := "kentledge/kentledgelaw02.TideCyclesHold", spec := "tideCyclesHold", unfollowed := true, recurses := true, apart := false, narrowed := true }
def TideCyclesHoldUptoSaid : Prop := tideCyclesHoldUptoRow.holds Try.pinned (OpenSpec.upto tideCyclesHoldSpec)

/-- 'kentledgelaw02.TideTrueWater', WHERE WHAT IT READS IS OF BULK AT MOST 1048576: true; the input reads as it did. -/
def tideTrueWaterUptoRow : OpenClaim := { program := "ytekpffjcffeanaa", sum := "76286bb52eaa6f61691bdab9aa10749e9683df21906860d7a0f27aa230b72877", func := "kentledge/kentledgelaw02.TideTrueWater", spec := "tideTrueWater", unfollowed := true, recurses := true, apart := false, narrowed := true }
def TideTrueWaterUptoSaid : Prop := tideTrueWaterUptoRow.holds Try.pinned (OpenSpec.upto tideTrueWaterSpec)

/-- 'kentledgelaw02.TideMoreGauges', WHERE WHAT IT READS IS OF BULK AT MOST 1048576: true; the input reads as it did. -/
def tideMoreGaugesUptoRow : OpenClaim := { program := "ytekpffjcffeanaa", sum := "76286bb52eaa6f61691bdab9aa10749e9683df21906860d7a0f27aa230b72877", func := "kentledge/kentledgelaw02.TideMoreGauges", spec := "tideMoreGauges", unfollowed := true, recurses := true, apart := false, narrowed := true }
def TideMoreGaugesUptoSaid : Prop := tideMoreGaugesUptoRow.holds Try.pinned (OpenSpec.upto tideMoreGaugesSpec)

/-- 'kentledgelaw02.TideChecks', WHERE WHAT IT READS IS OF BULK AT MOST 1048576: true; the input reads as it did. -/
def tideChecksUptoRow : OpenClaim := { program := "ytekpffjcffeanaa", sum := "76286bb52eaa6f61691bdab9aa10749e9683df21906860d7a0f27aa230b72877", func := "kentledge/kentledgelaw02.TideChecks", spec := "tideChecks", unfollowed := true, recurses := true, apart := false, narrowed := true }
def TideChecksUptoSaid : Prop := tideChecksUptoRow.holds Try.pinned (OpenSpec.upto tideChecksSpec)

/-- 'kentledgelaw02.TidePeaks', WHERE WHAT IT READS IS OF BULK AT MOST 1048576: true; the input reads as it did. -/
def tidePeaksUptoRow : OpenClaim := { program := "ytekpffjcffeanaa", sum := "76286bb52eaa6f61691bdab9aa10749e9683df21906860d7a0f27aa230b72877", func := "kentledge/kentledgelaw02.TidePeaks", spec := "tidePeaks", unfollowed := true, recurses := true, apart := false, narrowed := true }
def TidePeaksUptoSaid : Prop := tidePeaksUptoRow.holds Try.pinned (OpenSpec.upto tidePeaksSpec)

/-- 'kentledgelaw02.TideTurns', WHERE WHAT IT READS IS OF BULK AT MOST 1048576: true; the input reads as it did. -/
def tideTurnsUptoRow : OpenClaim := { program := "ytekpffjcffeanaa", sum := "76286bb52eaa6f61691bdab9aa10749e9683df21906860d7a0f27aa230b72877", func := "kentledge/kentledgelaw02.TideTurns", spec := "tideTurns", unfollowed := true, recurses := true, apart := false, narrowed := true }
def TideTurnsUptoSaid : Prop := tideTurnsUptoRow.holds Try.pinned (OpenSpec.upto tideTurnsSpec)

/-- 'kentledgelaw02.TideWindows', WHERE WHAT IT READS IS OF BULK AT MOST 1048576: true; the input reads as it did. -/
def tideWindowsUptoRow : OpenClaim := { program := "ytekpffjcffeanaa", sum := "76286bb52eaa6f61691bdab9aa10749e9683df21906860d7a0f27aa230b72877", func := "kentledge/kentledgelaw02.TideWindows", spec := "tideWindows", unfollowed := true, recurses := true, apart := false, narrowed := true }
def TideWindowsUptoSaid : Prop := tideWindowsUptoRow.holds Try.pinned (OpenSpec.upto tideWindowsSpec)

/-- 'kentledgelaw02.TideProves', WHERE WHAT IT READS IS OF BULK AT MOST 1048576: true; the input reads as it did. -/
def tideProvesUptoRow : OpenClaim := { program := "ytekpffjcffeanaa", sum := "76286bb52eaa6f61691bdab9aa10749e9683df21906860d7a0f27aa230b72877", func := "kentledge/kentledgelaw02.TideProves", spec := "tideProves", unfollowed := true, recurses := true, apart := false, narrowed := true }
def TideProvesUptoSaid : Prop := tideProvesUptoRow.holds Try.pinned (OpenSpec.upto tideProvesSpec)

/-- 'kentledgelaw02.TideCycles', WHERE WHAT IT READS IS OF BULK AT MOST 1048576: true; the input reads as it did. -/
def tideCyclesUptoRow : OpenClaim := { program := "ytekpffjcffeanaa", sum := "76286bb52eaa6f61691bdab9aa10749e9683df21906860d7a0f27aa230b72877", func := "kentledge/kentledgelaw02.TideCycles", spec := "tideCycles", unfollowed := true, recurses := true, apart := false, narrowed := true }
def TideCyclesUptoSaid : Prop := tideCyclesUptoRow.holds Try.pinned (OpenSpec.upto tideCyclesSpec)

/-- 'kentledgelaw02.TideSame', WHERE WHAT IT READS IS OF BULK AT MOST 1048576: true; the input reads as it did. -/
def tideSameUptoRow : OpenClaim := { program := "ytekpffjcffeanaa", sum := "76286bb52eaa6f61691bdab9aa10749e9683df21906860d7a0f27aa230b72877", func := "kentledge/kentledgelaw02.TideSame", spec := "tideSame", unfollowed := true, recurses := true, apart := false, narrowed := true }
def TideSameUptoSaid : Prop := tideSameUptoRow.holds Try.pinned (OpenSpec.upto tideSameSpec)

end Rows
end Go.Proofs.Ytekpffjcffeanaa
