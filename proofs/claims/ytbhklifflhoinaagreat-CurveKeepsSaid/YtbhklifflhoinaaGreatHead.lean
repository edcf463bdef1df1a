/- The head of layer 1's laws returns true: by the calculator. -/
import Derived.Test.YtbhklifflhoinaaGreatProg
import Derived.Test.YtbhklifflhoinaaGreatEvF
namespace Go.Proofs.YtbhklifflhoinaaGreat
open Go.RowKit

theorem mixed : Tryz.prog.follows .mixedOrders = true := by decide +kernel
set_option maxRecDepth 1000000 in
theorem head_says : Ev.saysTrue Tryz.prog 100000 6 = true := by decide +kernel
theorem head_any (w : World) : Calls Tryz.prog 6 #[] w fun e w' => e = .returned (.bool true) ∧ Below w.heap.size w w' := Ev.saysTrue_sound mixed head_says w
end Go.Proofs.YtbhklifflhoinaaGreat
