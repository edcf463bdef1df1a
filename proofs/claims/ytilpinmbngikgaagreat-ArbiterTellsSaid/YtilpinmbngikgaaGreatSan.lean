/- sanity of layer 9 returns true: by the calculator, in parts. -/
import Derived.Test.YtilpinmbngikgaaGreatSea
import Derived.Test.YtilpinmbngikgaaGreatSeb
import Derived.Test.YtilpinmbngikgaaGreatSec
import Derived.Test.YtilpinmbngikgaaGreatSed
import Derived.Test.YtilpinmbngikgaaGreatSee
import Derived.Test.YtilpinmbngikgaaGreatSef
import Derived.Test.YtilpinmbngikgaaGreatSeg
import Derived.Test.YtilpinmbngikgaaGreatSeh
import Derived.Test.YtilpinmbngikgaaGreatSei
import Derived.Test.YtilpinmbngikgaaGreatSej
import Derived.Test.YtilpinmbngikgaaGreatSek
import Derived.Test.YtilpinmbngikgaaGreatSel
import Derived.Test.YtilpinmbngikgaaGreatSem
namespace Go.Proofs.YtilpinmbngikgaaGreat
open Go.RowKit

theorem sanity_any (w : World) : Calls Tryz.prog 5 #[] w fun e w' => e = .returned (.bool true) ∧ Below w.heap.size w w' := by
  obtain ⟨o, ok, ex, a2, h2, he⟩ := Ev.lastTrue_ok mixed san_last
  exact Ev.calls_of_parts (by kernel_rfl) (by kernel_rfl) (by kernel_rfl) (Ev.segK_next mixed san_s0 (Ev.segK_next mixed san_s1 (Ev.segK_next mixed san_s2 (Ev.segK_next mixed san_s3 (Ev.segK_next mixed san_s4 (Ev.segK_next mixed san_s5 (Ev.segK_next mixed san_s6 (Ev.segK_next mixed san_s7 (Ev.segK_next mixed san_s8 (Ev.segK_next mixed san_s9 (Ev.segK_next mixed san_s10 (Ev.segK_next mixed san_s11 ok)))))))))))) he w
#print axioms sanity_any
end Go.Proofs.YtilpinmbngikgaaGreat
