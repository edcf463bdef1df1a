/- sanity of layer 8 returns true: by the calculator, in parts. -/
import Derived.Test.YtnihpojigpomkaaGreatDc
import Derived.Test.YtnihpojigpomkaaGreatSea
import Derived.Test.YtnihpojigpomkaaGreatSeb
import Derived.Test.YtnihpojigpomkaaGreatSec
import Derived.Test.YtnihpojigpomkaaGreatSed
import Derived.Test.YtnihpojigpomkaaGreatSee
import Derived.Test.YtnihpojigpomkaaGreatSef
import Derived.Test.YtnihpojigpomkaaGreatSeg
import Derived.Test.YtnihpojigpomkaaGreatSeh
import Derived.Test.YtnihpojigpomkaaGreatSei
import Derived.Test.YtnihpojigpomkaaGreatSej
import Derived.Test.YtnihpojigpomkaaGreatSek
import Derived.Test.YtnihpojigpomkaaGreatSel
import Derived.Test.YtnihpojigpomkaaGreatSem
import Derived.Test.YtnihpojigpomkaaGreatSen
import Derived.Test.YtnihpojigpomkaaGreatSeo
namespace Go.Proofs.YtnihpojigpomkaaGreat
open Go.RowKit

theorem sanR_sound : Ev.SoundB Tryz.prog sanR := Ev.runB_sound mixed keyB_sound.runs 100000
theorem sanity_any (w : World) : Calls Tryz.prog 6 #[] w fun e w' => e = .returned (.bool true) ∧ Below w.heap.size w w' := by
  obtain ⟨o, ok, ex, a2, h2, he⟩ := Ev.lastTrueR_ok sanR_sound san_last
  exact Ev.calls_of_parts (by kernel_rfl) (by kernel_rfl) (by kernel_rfl) (Ev.segKR_next sanR_sound san_s0 (Ev.segKR_next sanR_sound san_s1 (Ev.segKR_next sanR_sound san_s2 (Ev.segKR_next sanR_sound san_s3 (Ev.segKR_next sanR_sound san_s4 (Ev.segKR_next sanR_sound san_s5 (Ev.segKR_next sanR_sound san_s6 (Ev.segKR_next sanR_sound san_s7 (Ev.segKR_next sanR_sound san_s8 (Ev.segKR_next sanR_sound san_s9 (Ev.segKR_next sanR_sound san_s10 (Ev.segKR_next sanR_sound san_s11 (Ev.segKR_next sanR_sound san_s12 (Ev.segKR_next sanR_sound san_s13 ok)))))))))))))) he w
#print axioms sanity_any
end Go.Proofs.YtnihpojigpomkaaGreat
