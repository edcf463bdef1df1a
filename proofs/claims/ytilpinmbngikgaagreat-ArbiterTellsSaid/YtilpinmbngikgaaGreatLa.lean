/- Layer 9 over the calculator's memory: what is known, courts, rounds. -/
import Derived.Test.YtilpinmbngikgaaGreatProg
import Derived.Test.YtilpinmbngikgaaGreatEv8
import Derived.Test.YtilpinmbngikgaaGreatKt
import Derived.Test.YtilpinmbngikgaaGreatRq
namespace Go.Proofs.YtilpinmbngikgaaGreat
open Go.Proofs.YtilpinmbngikgaaGreat.Ev

/-- sanity() is known to say true, rulings are known -/
def Bs : Base := orB (sayB 5) rulB
theorem sanity_con (h : Heap) (g : Gd h) : Con Tryz.prog Bs 5 [] h [] (.bool true) [] := Con.base rfl g
set_option maxRecDepth 100000 in
theorem within_con (h : Heap) (g : Gd h) (n lo hi : Int) : Con Tryz.prog Bs 51 [.int .i64 n, .int .i64 lo, .int .i64 hi] h [] (.bool (inB n lo hi)) [] := by
  refine Con.start rfl Tryz.func51 rfl rfl Tryz.ntmps51 rfl rfl g ?_
  (refine WK.seq ?_; refine WK.region ?_; refine St.assign ?_; refine WO.nil ?_; refine WK.seq ?_; refine WK.region ?_; refine St.move ?_; refine St.move ?_; refine St.bin ?_; refine St.move ?_)
  refine St.split (fun q => ?_) (fun q => ?_)
  · (refine St.move ?_; refine St.move ?_; refine St.bin ?_; refine St.pickT ?_; refine St.assign ?_; refine WO.nil ?_)
    refine St.ret (by first | exact .tmp .nil | exact .cell .nil | exact .cell (.tmp .nil) | exact .tmp (.tmp .nil) | exact .cell (.cell .nil) | exact .tmp (.cell .nil) | exact .nil | exact .tmp (.cell (.tmp .nil)) | exact .cell (.tmp (.tmp .nil)) | exact .cell (.cell (.tmp .nil)) | exact .tmp (.tmp (.tmp .nil)) | exact .tmp (.tmp (.tmp (.tmp .nil))) | exact .cell (.cell (.cell .nil))) ?_
    simp at q
    simp [oneOf, inB, q]
  · (refine St.skip ?_; refine St.skip ?_; refine St.skip ?_; refine St.pickF ?_; refine St.assign ?_; refine WO.nil ?_)
    refine St.ret (by first | exact .tmp .nil | exact .cell .nil | exact .cell (.tmp .nil) | exact .tmp (.tmp .nil) | exact .cell (.cell .nil) | exact .tmp (.cell .nil) | exact .nil | exact .tmp (.cell (.tmp .nil)) | exact .cell (.tmp (.tmp .nil)) | exact .cell (.cell (.tmp .nil)) | exact .tmp (.tmp (.tmp .nil)) | exact .tmp (.tmp (.tmp (.tmp .nil))) | exact .cell (.cell (.cell .nil))) ?_
    simp at q
    have : ¬ lo ≤ n := by omega
    simp [oneOf, inB, this]
set_option maxRecDepth 100000 in
theorem in_con (h : Heap) (g : Gd h) (n lo hi : Int) : Con Tryz.prog Bs 31 [.int .i64 n, .int .i64 lo, .int .i64 hi] h [] (.bool (inB n lo hi)) [] := by
  refine Con.start rfl Tryz.func31 rfl rfl Tryz.ntmps31 rfl rfl g ?_
  (refine WK.seq ?_; refine WK.region ?_; refine St.assign ?_; refine WO.nil ?_; refine WK.seq ?_; refine WK.region ?_; refine St.move ?_; refine St.move ?_; refine St.bin ?_; refine St.move ?_)
  refine St.split (fun q => ?_) (fun q => ?_)
  · (refine St.move ?_; refine St.move ?_; refine St.bin ?_; refine St.pickT ?_; refine St.assign ?_; refine WO.nil ?_)
    refine St.ret (by first | exact .tmp .nil | exact .cell .nil | exact .cell (.tmp .nil) | exact .tmp (.tmp .nil) | exact .cell (.cell .nil) | exact .tmp (.cell .nil) | exact .nil | exact .tmp (.cell (.tmp .nil)) | exact .cell (.tmp (.tmp .nil)) | exact .cell (.cell (.tmp .nil)) | exact .tmp (.tmp (.tmp .nil)) | exact .tmp (.tmp (.tmp (.tmp .nil))) | exact .cell (.cell (.cell .nil))) ?_
    simp at q
    simp [oneOf, inB, q]
  · (refine St.skip ?_; refine St.skip ?_; refine St.skip ?_; refine St.pickF ?_; refine St.assign ?_; refine WO.nil ?_)
    refine St.ret (by first | exact .tmp .nil | exact .cell .nil | exact .cell (.tmp .nil) | exact .tmp (.tmp .nil) | exact .cell (.cell .nil) | exact .tmp (.cell .nil) | exact .nil | exact .tmp (.cell (.tmp .nil)) | exact .cell (.tmp (.tmp .nil)) | exact .cell (.cell (.tmp .nil)) | exact .tmp (.tmp (.tmp .nil)) | exact .tmp (.tmp (.tmp (.tmp .nil))) | exact .cell (.cell (.cell .nil))) ?_
    simp at q
    have : ¬ lo ≤ n := by omega
    simp [oneOf, inB, this]
set_option maxRecDepth 100000 in
theorem isRound_con (h : Heap) (g : Gd h) (n : Int) : Con Tryz.prog Bs 38 [.int .i64 n] h [] (.bool (rdB n)) [] := by
  refine Con.start rfl Tryz.func38 rfl rfl Tryz.ntmps38 rfl rfl g ?_
  (refine WK.seq ?_; refine WK.region ?_; refine St.assign ?_; refine WO.nil ?_; refine WK.seq ?_; refine WK.region ?_; refine St.move ?_)
  refine St.call (fun _ => rfl) (fun h2 hh => within_con h2 hh.gd n 1 1048576) ?_
  (refine St.assign ?_; refine WO.nil ?_)
  refine St.ret (by first | exact .tmp .nil | exact .cell .nil | exact .cell (.tmp .nil) | exact .tmp (.tmp .nil) | exact .cell (.cell .nil) | exact .tmp (.cell .nil) | exact .nil | exact .tmp (.cell (.tmp .nil)) | exact .cell (.tmp (.tmp .nil)) | exact .cell (.cell (.tmp .nil)) | exact .tmp (.tmp (.tmp .nil)) | exact .tmp (.tmp (.tmp (.tmp .nil))) | exact .cell (.cell (.cell .nil))) ?_
  rfl
set_option maxRecDepth 100000 in
theorem isCase_con (h : Heap) (g : Gd h) (n : Int) : Con Tryz.prog Bs 29 [.int .i64 n] h [] (.bool (inB n 1 1099511627776)) [] := by
  refine Con.start rfl Tryz.func29 rfl rfl Tryz.ntmps29 rfl rfl g ?_
  (refine WK.seq ?_; refine WK.region ?_; refine St.assign ?_; refine WO.nil ?_; refine WK.seq ?_; refine WK.region ?_; refine St.move ?_)
  refine St.call (fun _ => rfl) (fun h2 hh => within_con h2 hh.gd n 1 1099511627776) ?_
  (refine St.assign ?_; refine WO.nil ?_)
  refine St.ret (by first | exact .tmp .nil | exact .cell .nil | exact .cell (.tmp .nil) | exact .tmp (.tmp .nil) | exact .cell (.cell .nil) | exact .tmp (.cell .nil) | exact .nil | exact .tmp (.cell (.tmp .nil)) | exact .cell (.tmp (.tmp .nil)) | exact .cell (.cell (.tmp .nil)) | exact .tmp (.tmp (.tmp .nil)) | exact .tmp (.tmp (.tmp (.tmp .nil))) | exact .cell (.cell (.cell .nil))) ?_
  rfl
set_option maxRecDepth 100000 in
theorem isFinding_con (h : Heap) (g : Gd h) (n : Int) : Con Tryz.prog Bs 75 [.int .i64 n] h [] (.bool (inB n 0 65536)) [] := by
  refine Con.start rfl Tryz.func75 rfl rfl Tryz.ntmps75 rfl rfl g ?_
  (refine WK.seq ?_; refine WK.region ?_; refine St.assign ?_; refine WO.nil ?_; refine WK.seq ?_; refine WK.region ?_; refine St.move ?_)
  refine St.call (fun _ => rfl) (fun h2 hh => within_con h2 hh.gd n 0 65536) ?_
  (refine St.assign ?_; refine WO.nil ?_)
  refine St.ret (by first | exact .tmp .nil | exact .cell .nil | exact .cell (.tmp .nil) | exact .tmp (.tmp .nil) | exact .cell (.cell .nil) | exact .tmp (.cell .nil) | exact .nil | exact .tmp (.cell (.tmp .nil)) | exact .cell (.tmp (.tmp .nil)) | exact .cell (.cell (.tmp .nil)) | exact .tmp (.tmp (.tmp .nil)) | exact .tmp (.tmp (.tmp (.tmp .nil))) | exact .cell (.cell (.cell .nil))) ?_
  rfl
set_option maxRecDepth 100000 in
theorem isArbiter_con (h : Heap) (g : Gd h) (c n : Int) : Con Tryz.prog Bs 28 [.agg [.int .i64 c], .int .i64 n] h [] (.bool (arB c n)) [] := by
  refine Con.start rfl Tryz.func28 rfl rfl Tryz.ntmps28 rfl rfl g ?_
  (refine WK.seq ?_; refine WK.region ?_; refine St.box fun _ _ => ?_; refine St.assign ?_; refine WO.nil ?_; refine WK.seq ?_; refine WK.region ?_; refine St.move ?_; refine St.bin ?_; refine St.move ?_)
  refine St.split (fun q => ?_) (fun q => ?_)
  · (refine St.move ?_; refine St.fieldAddr ?_; refine St.load ?_; refine St.bin ?_; refine St.pickT ?_; refine St.assign ?_; refine WO.nil ?_)
    refine St.ret (by first | exact .tmp .nil | exact .cell .nil | exact .cell (.tmp .nil) | exact .tmp (.tmp .nil) | exact .cell (.cell .nil) | exact .tmp (.cell .nil) | exact .nil | exact .tmp (.cell (.tmp .nil)) | exact .cell (.tmp (.tmp .nil)) | exact .cell (.cell (.tmp .nil)) | exact .tmp (.tmp (.tmp .nil)) | exact .tmp (.tmp (.tmp (.tmp .nil))) | exact .cell (.cell (.cell .nil))) ?_
    simp at q
    simp [oneOf, arB, q]
  · (refine St.skip ?_; refine St.skip ?_; refine St.skip ?_; refine St.skip ?_; refine St.pickF ?_; refine St.assign ?_; refine WO.nil ?_)
    refine St.ret (by first | exact .tmp .nil | exact .cell .nil | exact .cell (.tmp .nil) | exact .tmp (.tmp .nil) | exact .cell (.cell .nil) | exact .tmp (.cell .nil) | exact .nil | exact .tmp (.cell (.tmp .nil)) | exact .cell (.tmp (.tmp .nil)) | exact .cell (.cell (.tmp .nil)) | exact .tmp (.tmp (.tmp .nil)) | exact .tmp (.tmp (.tmp (.tmp .nil))) | exact .cell (.cell (.cell .nil))) ?_
    simp at q
    have : ¬ 0 ≤ n := by omega
    simp [oneOf, arB, this]
set_option maxRecDepth 100000 in
theorem check_con (h : Heap) (g : Gd h) (c : Int) : Con Tryz.prog Bs 50 [.agg [.int .i64 c]] h [] (.int .i64 (chkC c)) [] := by
  refine Con.start rfl Tryz.func50 rfl rfl Tryz.ntmps50 rfl rfl g ?_
  (refine WK.seq ?_; refine WK.region ?_; refine St.box fun _ _ => ?_; refine St.assign ?_; refine WO.nil ?_; refine WK.seq ?_; refine WK.seq ?_; refine WK.region ?_; refine St.fieldAddr ?_; refine St.load ?_)
  refine St.call (fun _ => rfl) (fun h2 hh => within_con h2 hh.gd c 3 7) ?_
  cases hq : inB c 3 7
  · (refine St.un ?_; refine WO.nil ?_; refine WK.condT ?_; refine WK.seq ?_; refine WK.region ?_; refine St.assign ?_; refine WO.nil ?_)
    refine St.ret (by first | exact .tmp .nil | exact .cell .nil | exact .cell (.tmp .nil) | exact .tmp (.tmp .nil) | exact .cell (.cell .nil) | exact .tmp (.cell .nil) | exact .nil | exact .tmp (.cell (.tmp .nil)) | exact .cell (.tmp (.tmp .nil)) | exact .cell (.cell (.tmp .nil)) | exact .tmp (.tmp (.tmp .nil)) | exact .tmp (.tmp (.tmp (.tmp .nil))) | exact .cell (.cell (.cell .nil))) ?_
    simp [oneOf, chkC, crt, hq]
  · (refine St.un ?_; refine WO.nil ?_; refine WK.condF ?_; refine WK.skip ?_; refine WK.seq ?_; refine WK.region ?_; refine St.assign ?_; refine WO.nil ?_)
    refine St.ret (by first | exact .tmp .nil | exact .cell .nil | exact .cell (.tmp .nil) | exact .tmp (.tmp .nil) | exact .cell (.cell .nil) | exact .tmp (.cell .nil) | exact .nil | exact .tmp (.cell (.tmp .nil)) | exact .cell (.tmp (.tmp .nil)) | exact .cell (.cell (.tmp .nil)) | exact .tmp (.tmp (.tmp .nil)) | exact .tmp (.tmp (.tmp (.tmp .nil))) | exact .cell (.cell (.cell .nil))) ?_
    simp [oneOf, chkC, crt, hq]
set_option maxRecDepth 100000 in
theorem rcheck_con (h : Heap) (g : Gd h) (c : Int) : Con Tryz.prog Bs 59 [.agg [.int .i64 c]] h [] (.int .i64 (chkC c)) [] := by
  refine Con.start rfl Tryz.func59 rfl rfl Tryz.ntmps59 rfl rfl g ?_
  (refine WK.seq ?_; refine WK.region ?_; refine St.box fun _ _ => ?_; refine St.assign ?_; refine WO.nil ?_; refine WK.seq ?_; refine WK.seq ?_; refine WK.region ?_; refine St.fieldAddr ?_; refine St.load ?_)
  refine St.call (fun _ => rfl) (fun h2 hh => in_con h2 hh.gd c 3 7) ?_
  cases hq : inB c 3 7
  · (refine St.un ?_; refine WO.nil ?_; refine WK.condT ?_; refine WK.seq ?_; refine WK.region ?_; refine St.assign ?_; refine WO.nil ?_)
    refine St.ret (by first | exact .tmp .nil | exact .cell .nil | exact .cell (.tmp .nil) | exact .tmp (.tmp .nil) | exact .cell (.cell .nil) | exact .tmp (.cell .nil) | exact .nil | exact .tmp (.cell (.tmp .nil)) | exact .cell (.tmp (.tmp .nil)) | exact .cell (.cell (.tmp .nil)) | exact .tmp (.tmp (.tmp .nil)) | exact .tmp (.tmp (.tmp (.tmp .nil))) | exact .cell (.cell (.cell .nil))) ?_
    simp [oneOf, chkC, crt, hq]
  · (refine St.un ?_; refine WO.nil ?_; refine WK.condF ?_; refine WK.skip ?_; refine WK.seq ?_; refine WK.region ?_; refine St.assign ?_; refine WO.nil ?_)
    refine St.ret (by first | exact .tmp .nil | exact .cell .nil | exact .cell (.tmp .nil) | exact .tmp (.tmp .nil) | exact .cell (.cell .nil) | exact .tmp (.cell .nil) | exact .nil | exact .tmp (.cell (.tmp .nil)) | exact .cell (.tmp (.tmp .nil)) | exact .cell (.cell (.tmp .nil)) | exact .tmp (.tmp (.tmp .nil)) | exact .tmp (.tmp (.tmp (.tmp .nil))) | exact .cell (.cell (.cell .nil))) ?_
    simp [oneOf, chkC, crt, hq]
end Go.Proofs.YtilpinmbngikgaaGreat
