/- sanity of layer 5 returns true: by the calculator, in parts. -/
import Derived.Test.YtjlpoomjgidgaaaSea
import Derived.Test.YtjlpoomjgidgaaaSeb
import Derived.Test.YtjlpoomjgidgaaaSec
import Derived.Test.YtjlpoomjgidgaaaSed
import Derived.Test.YtjlpoomjgidgaaaSee
import Derived.Test.YtjlpoomjgidgaaaSef
import Derived.Test.YtjlpoomjgidgaaaSeg
import Derived.Test.YtjlpoomjgidgaaaSeh
import Derived.Test.YtjlpoomjgidgaaaSei
import Derived.Test.YtjlpoomjgidgaaaSej
import Derived.Test.YtjlpoomjgidgaaaSek
import Derived.Test.YtjlpoomjgidgaaaSel
import Derived.Test.YtjlpoomjgidgaaaSem
namespace Go.Proofs.Ytjlpoomjgidgaaa
open Go.RowKit

theorem sanity_any (w : World) : Calls Try.prog 6 #[] w fun e w' => e = .returned (.bool true) ∧ Below w.heap.size w w' := by
  obtain ⟨o, ok, ex, a2, h2, he⟩ := Ev.lastTrue_ok mixed san_last
  exact Ev.calls_of_parts (by kernel_rfl) (by kernel_rfl) (by kernel_rfl) (Ev.segK_next mixed san_s0 (Ev.segK_next mixed san_s1 (Ev.segK_next mixed san_s2 (Ev.segK_next mixed san_s3 (san_p4 (Ev.segK_next mixed san_s5 (Ev.segK_next mixed san_s6 (Ev.segK_next mixed san_s7 (Ev.segK_next mixed san_s8 (Ev.segK_next mixed san_s9 (san_p10 (Ev.segK_next mixed san_s11 ok)))))))))))) he w
#print axioms sanity_any
end Go.Proofs.Ytjlpoomjgidgaaa
