/- The head of layer 1's laws returns true: by the calculator. -/
import Derived.Test.YtcaemeedmnpdjaaProg
import Derived.Test.YtcaemeedmnpdjaaEvF
namespace Go.Proofs.Ytcaemeedmnpdjaa
open Go.RowKit

theorem mixed : Try.prog.follows .mixedOrders = true := by decide +kernel
set_option maxRecDepth 1000000 in
theorem head_says : Ev.saysTrue Try.prog 100000 14 = true := by decide +kernel
theorem head_any (w : World) : Calls Try.prog 14 #[] w fun e w' => e = .returned (.bool true) ∧ Below w.heap.size w w' := Ev.saysTrue_sound mixed head_says w
end Go.Proofs.Ytcaemeedmnpdjaa
