/- sanity of layer 8 returns true: by the calculator, in parts. -/
import Derived.Test.YtkebbdpfjhhdhaaGreatDc
import Derived.Test.YtkebbdpfjhhdhaaGreatSeb
import Derived.Test.YtkebbdpfjhhdhaaGreatSed
import Derived.Test.YtkebbdpfjhhdhaaGreatSef
import Derived.Test.YtkebbdpfjhhdhaaGreatSeh
import Derived.Test.YtkebbdpfjhhdhaaGreatSej
import Derived.Test.YtkebbdpfjhhdhaaGreatSel
import Derived.Test.YtkebbdpfjhhdhaaGreatSen
/- sanity of layer 8: part 14. -/
namespace Go.Proofs.YtkebbdpfjhhdhaaGreat
open Go.RowKit
set_option maxRecDepth 1000000
theorem san_last : Ev.lastTrueR Tryz.prog sanR Tryz.f18 (Ev.restC 14 sanBody) sanA13 sanH13 = true := by decide +kernel
end Go.Proofs.YtkebbdpfjhhdhaaGreat

/- sanity of layer 8 returns true: by the calculator, in parts. -/
namespace Go.Proofs.YtkebbdpfjhhdhaaGreat
open Go.RowKit

theorem sanR_sound : Ev.SoundB Tryz.prog sanR := Ev.runB_sound mixed keyB_sound.runs 100000
theorem sanity_any (w : World) : Calls Tryz.prog 18 #[] w fun e w' => e = .returned (.bool true) ∧ Below w.heap.size w w' := by
  obtain ⟨o, ok, ex, a2, h2, he⟩ := Ev.lastTrueR_ok sanR_sound san_last
  exact Ev.calls_of_parts (by kernel_rfl) (by kernel_rfl) (by kernel_rfl) (Ev.segKR_next sanR_sound san_s0 (Ev.segKR_next sanR_sound san_s1 (Ev.segKR_next sanR_sound san_s2 (Ev.segKR_next sanR_sound san_s3 (Ev.segKR_next sanR_sound san_s4 (Ev.segKR_next sanR_sound san_s5 (Ev.segKR_next sanR_sound san_s6 (Ev.segKR_next sanR_sound san_s7 (Ev.segKR_next sanR_sound san_s8 (Ev.segKR_next sanR_sound san_s9 (Ev.segKR_next sanR_sound san_s10 (Ev.segKR_next sanR_sound san_s11 (Ev.segKR_next sanR_sound san_s12 (Ev.segKR_next sanR_sound san_s13 ok)))))))))))))) he w
#print axioms sanity_any
end Go.Proofs.YtkebbdpfjhhdhaaGreat
