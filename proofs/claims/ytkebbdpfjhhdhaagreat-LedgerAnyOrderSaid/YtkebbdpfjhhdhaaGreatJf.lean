/- Layer 8: closed facts of the program, one by one (a great seat's are too much for one evaluation). -/
import Derived.Test.YtkebbdpfjhhdhaaGreatRow
import Derived.Test.YtkebbdpfjhhdhaaGreatRows
import Derived.JoinedOf
namespace Go.Proofs.YtkebbdpfjhhdhaaGreat
open Go Go.Proofs

theorem jf_laid : laidOutB Tryz.prog = true := by kernel_rfl
theorem jf_maps : mapsRowed Tryz.prog = true := by kernel_rfl
theorem jf_stops : (Tryz.prog.stops == []) = true := by kernel_rfl
theorem jf_knobs : (Tryz.prog.stopKnobs == []) = true := by kernel_rfl
theorem jf_keys : (true == Tryz.prog.plainKeys) = true := by kernel_rfl
theorem jf_heard : Tryz.prog.stopsHeard = true := by kernel_rfl
theorem jf_enter : Tryz.prog.mayEnter = true := by kernel_rfl
theorem jf_make : (Tryz.prog.make == some .cut) = true := by kernel_rfl
theorem jf_lifts : (false == Tryz.prog.liftsFinal) = true := by kernel_rfl
end Go.Proofs.YtkebbdpfjhhdhaaGreat
