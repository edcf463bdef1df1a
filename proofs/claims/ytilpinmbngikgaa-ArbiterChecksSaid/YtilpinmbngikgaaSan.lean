/- sanity of layer 9 returns true: by the calculator, in parts. -/
import Derived.Test.YtilpinmbngikgaaSea
import Derived.Test.YtilpinmbngikgaaSeb
import Derived.Test.YtilpinmbngikgaaSec
import Derived.Test.YtilpinmbngikgaaSed
import Derived.Test.YtilpinmbngikgaaSee
import Derived.Test.YtilpinmbngikgaaSef
import Derived.Test.YtilpinmbngikgaaSeg
import Derived.Test.YtilpinmbngikgaaSeh
import Derived.Test.YtilpinmbngikgaaSei
import Derived.Test.YtilpinmbngikgaaSej
import Derived.Test.YtilpinmbngikgaaSek
import Derived.Test.YtilpinmbngikgaaSel
import Derived.Test.YtilpinmbngikgaaSem
namespace Go.Proofs.Ytilpinmbngikgaa
open Go.RowKit

theorem sanity_any (w : World) : Calls Try.prog 10 #[] w fun e w' => e = .returned (.bool true) ∧ Below w.heap.size w w' := by
  obtain ⟨o, ok, ex, a2, h2, he⟩ := Ev.lastTrue_ok mixed san_last
  exact Ev.calls_of_parts (by kernel_rfl) (by kernel_rfl) (by kernel_rfl) (Ev.segK_next mixed san_s0 (Ev.segK_next mixed san_s1 (Ev.segK_next mixed san_s2 (Ev.segK_next mixed san_s3 (Ev.segK_next mixed san_s4 (Ev.segK_next mixed san_s5 (Ev.segK_next mixed san_s6 (Ev.segK_next mixed san_s7 (Ev.segK_next mixed san_s8 (Ev.segK_next mixed san_s9 (Ev.segK_next mixed san_s10 (Ev.segK_next mixed san_s11 ok)))))))))))) he w
#print axioms sanity_any
end Go.Proofs.Ytilpinmbngikgaa
