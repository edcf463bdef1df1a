/- sanity of layer 5 returns true: by the calculator, in parts. -/
import Derived.Test.YtkgolbanbdmbkaaSea
import Derived.Test.YtkgolbanbdmbkaaSeb
import Derived.Test.YtkgolbanbdmbkaaSec
import Derived.Test.YtkgolbanbdmbkaaSed
import Derived.Test.YtkgolbanbdmbkaaSee
import Derived.Test.YtkgolbanbdmbkaaSef
import Derived.Test.YtkgolbanbdmbkaaSeg
import Derived.Test.YtkgolbanbdmbkaaSeh
import Derived.Test.YtkgolbanbdmbkaaSei
import Derived.Test.YtkgolbanbdmbkaaSej
import Derived.Test.YtkgolbanbdmbkaaSek
import Derived.Test.YtkgolbanbdmbkaaSel
import Derived.Test.YtkgolbanbdmbkaaSem
namespace Go.Proofs.Ytkgolbanbdmbkaa
open Go.RowKit

theorem sanity_any (w : World) : Calls Try.prog 5 #[] w fun e w' => e = .returned (.bool true) ∧ Below w.heap.size w w' := by
  obtain ⟨o, ok, ex, a2, h2, he⟩ := Ev.lastTrue_ok mixed san_last
  exact Ev.calls_of_parts (by kernel_rfl) (by kernel_rfl) (by kernel_rfl) (Ev.segK_next mixed san_s0 (Ev.segK_next mixed san_s1 (Ev.segK_next mixed san_s2 (Ev.segK_next mixed san_s3 (san_p4 (Ev.segK_next mixed san_s5 (Ev.segK_next mixed san_s6 (Ev.segK_next mixed san_s7 (Ev.segK_next mixed san_s8 (Ev.segK_next mixed san_s9 (san_p10 (Ev.segK_next mixed san_s11 ok)))))))))))) he w
#print axioms sanity_any
end Go.Proofs.Ytkgolbanbdmbkaa
