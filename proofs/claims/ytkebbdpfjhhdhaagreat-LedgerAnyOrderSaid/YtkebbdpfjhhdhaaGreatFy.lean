/- Layer 8: the law of LedgerAsKnown. -/
import Derived.Test.YtkebbdpfjhhdhaaGreatFs
import Derived.Test.YtkebbdpfjhhdhaaGreatFv
import Derived.Test.YtkebbdpfjhhdhaaGreatF6
/- Layer 8: the law of LedgerBalanced. -/
namespace Go.Proofs.YtkebbdpfjhhdhaaGreat
open Go.Proofs.YtkebbdpfjhhdhaaGreat.Ev

set_option maxRecDepth 100000 in
theorem few_con (h : Heap) (g : Gd h) (v : AV) (l : List Im) (hv : ImV h v l) : Con Tryz.prog Bs 17 [v] h [] (.bool (decide (l.length ≤ 30) || (decide (60 < l.length) && decide (l.length ≤ 80)))) [] := by
  refine Con.start rfl Tryz.func17 rfl rfl Tryz.ntmps17 rfl rfl g ?_
  (refine WK.seq ?_; refine WK.region ?_; refine St.assign ?_; refine WO.nil ?_; refine WK.seq ?_; refine WK.region ?_; refine St.move ?_)
  refine St.lenG rfl hv.llen ?_
  (refine St.bin ?_; refine St.move ?_)
  refine St.split (fun q => ?_) (fun q => ?_)
  · have h1 : l.length ≤ 30 := by simp at q; omega
    (refine St.skip ?_; refine St.skip ?_; refine St.skip ?_; refine St.skip ?_; refine St.skip ?_; refine St.skip ?_; refine St.skip ?_; refine St.skip ?_; refine St.pickT ?_; refine St.assign ?_; refine WO.nil ?_)
    refine St.ret (by first | exact .tmp .nil | exact .cell .nil | exact .cell (.tmp .nil) | exact .tmp (.tmp .nil) | exact .cell (.cell .nil) | exact .tmp (.cell .nil) | exact .nil | exact .tmp (.cell (.tmp .nil)) | exact .cell (.tmp (.tmp .nil)) | exact .cell (.cell (.tmp .nil)) | exact .tmp (.tmp (.tmp .nil)) | exact .tmp (.tmp (.tmp (.tmp .nil))) | exact .cell (.cell (.cell .nil))) ?_
    simp [oneOf, h1]
  have h1 : ¬ l.length ≤ 30 := by simp at q; omega
  (refine St.move ?_)
  refine St.lenG rfl hv.llen ?_
  (refine St.bin ?_; refine St.move ?_)
  refine St.split (fun q => ?_) (fun q => ?_)
  · have h2 : 60 < l.length := by simp at q; omega
    (refine St.move ?_)
    refine St.lenG rfl hv.llen ?_
    (refine St.bin ?_; refine St.pickT ?_; refine St.pickF ?_; refine St.assign ?_; refine WO.nil ?_)
    refine St.ret (by first | exact .tmp .nil | exact .cell .nil | exact .cell (.tmp .nil) | exact .tmp (.tmp .nil) | exact .cell (.cell .nil) | exact .tmp (.cell .nil) | exact .nil | exact .tmp (.cell (.tmp .nil)) | exact .cell (.tmp (.tmp .nil)) | exact .cell (.cell (.tmp .nil)) | exact .tmp (.tmp (.tmp .nil)) | exact .tmp (.tmp (.tmp (.tmp .nil))) | exact .cell (.cell (.cell .nil))) ?_
    simp [oneOf, h1, h2]
    try omega
  · have h2 : ¬ 60 < l.length := by simp at q; omega
    (refine St.skip ?_; refine St.skip ?_; refine St.skip ?_; refine St.pickF ?_; refine St.pickF ?_; refine St.assign ?_; refine WO.nil ?_)
    refine St.ret (by first | exact .tmp .nil | exact .cell .nil | exact .cell (.tmp .nil) | exact .tmp (.tmp .nil) | exact .cell (.cell .nil) | exact .tmp (.cell .nil) | exact .nil | exact .tmp (.cell (.tmp .nil)) | exact .cell (.tmp (.tmp .nil)) | exact .cell (.cell (.tmp .nil)) | exact .tmp (.tmp (.tmp .nil)) | exact .tmp (.tmp (.tmp (.tmp .nil))) | exact .cell (.cell (.cell .nil))) ?_
    simp [oneOf, h1, h2]
end Go.Proofs.YtkebbdpfjhhdhaaGreat

/- Layer 8: the law of LedgerAsKnown. -/
namespace Go.Proofs.YtkebbdpfjhhdhaaGreat
open Go.Proofs.YtkebbdpfjhhdhaaGreat.Ev

end Go.Proofs.YtkebbdpfjhhdhaaGreat
