/- Layer 8: Chain of both, the law of LedgerChains. -/
import Derived.Test.YtkebbdpfjhhdhaaGreatFg
import Derived.Test.YtkebbdpfjhhdhaaGreatDb
import Derived.Test.YtkebbdpfjhhdhaaGreatDo
/- Layer 8, plain: sums by accounts, in the order in which the accounts came, as a map's entries. -/
namespace Go.Proofs.YtkebbdpfjhhdhaaGreat
open Go.Proofs.YtkebbdpfjhhdhaaGreat.Ev

def getQ : List (Int × Int) → Int → Int
  | [], _ => 0
  | p :: l, k => if k = p.1 then p.2 else getQ l k
def accQ : List (Int × Int) → Int → Int → List (Int × Int)
  | [], k, d => [(k, d)]
  | p :: l, k, d => if k = p.1 then (k, p.2 + d) :: l else p :: accQ l k d
def sumQ (ps : List (Int × Int)) : List (Int × Int) := ps.foldl (fun q p => accQ q p.1 p.2) []
/-- as entries of a map -/
def mapQ : List (Int × Int) → Nat → List (AV × AV × Nat)
  | [], _ => []
  | p :: l, c => (.int .i64 p.1, .int .i64 p.2, c) :: mapQ l (c + 1)
end Go.Proofs.YtkebbdpfjhhdhaaGreat

/- Layer 8: Chain of both, the law of LedgerChains. -/
namespace Go.Proofs.YtkebbdpfjhhdhaaGreat
open Go.Proofs.YtkebbdpfjhhdhaaGreat.Ev

set_option maxRecDepth 100000 in
theorem within_con (h : Heap) (g : Gd h) (n lo hi : Int) : Con Tryz.prog Bs 94 [.int .i64 n, .int .i64 lo, .int .i64 hi] h [] (.bool (inB n lo hi)) [] := by
  refine Con.start rfl Tryz.func94 rfl rfl Tryz.ntmps94 rfl rfl g ?_
  (refine WK.seq ?_; refine WK.region ?_; refine St.assign ?_; refine WO.nil ?_; refine WK.seq ?_; refine WK.region ?_; refine St.move ?_; refine St.move ?_; refine St.bin ?_; refine St.move ?_)
  refine St.split (fun q => ?_) (fun q => ?_)
  · (refine St.move ?_; refine St.move ?_; refine St.bin ?_; refine St.pickT ?_; refine St.assign ?_; refine WO.nil ?_)
    refine St.ret (by first | exact .tmp .nil | exact .cell .nil | exact .cell (.tmp .nil) | exact .tmp (.tmp .nil) | exact .cell (.cell .nil) | exact .tmp (.cell .nil) | exact .nil | exact .tmp (.cell (.tmp .nil)) | exact .cell (.tmp (.tmp .nil)) | exact .cell (.cell (.tmp .nil)) | exact .tmp (.tmp (.tmp .nil)) | exact .tmp (.tmp (.tmp (.tmp .nil))) | exact .cell (.cell (.cell .nil))) ?_
    simp at q
    simp [oneOf, inB, q]
  · (refine St.skip ?_; refine St.skip ?_; refine St.skip ?_; refine St.pickF ?_; refine St.assign ?_; refine WO.nil ?_)
    refine St.ret (by first | exact .tmp .nil | exact .cell .nil | exact .cell (.tmp .nil) | exact .tmp (.tmp .nil) | exact .cell (.cell .nil) | exact .tmp (.cell .nil) | exact .nil | exact .tmp (.cell (.tmp .nil)) | exact .cell (.tmp (.tmp .nil)) | exact .cell (.cell (.tmp .nil)) | exact .tmp (.tmp (.tmp .nil)) | exact .tmp (.tmp (.tmp (.tmp .nil))) | exact .cell (.cell (.cell .nil))) ?_
    simp at q
    have : ¬ lo ≤ n := by omega
    simp [oneOf, inB, this]
set_option maxRecDepth 100000 in
theorem rwithin_con (h : Heap) (g : Gd h) (n lo hi : Int) : Con Tryz.prog Bs 101 [.int .i64 n, .int .i64 lo, .int .i64 hi] h [] (.bool (inB n lo hi)) [] := by
  refine Con.start rfl Tryz.func101 rfl rfl Tryz.ntmps101 rfl rfl g ?_
  (refine WK.seq ?_; refine WK.region ?_; refine St.assign ?_; refine WO.nil ?_; refine WK.seq ?_; refine WK.region ?_; refine St.move ?_; refine St.move ?_; refine St.bin ?_; refine St.move ?_)
  refine St.split (fun q => ?_) (fun q => ?_)
  · (refine St.move ?_; refine St.move ?_; refine St.bin ?_; refine St.pickT ?_; refine St.assign ?_; refine WO.nil ?_)
    refine St.ret (by first | exact .tmp .nil | exact .cell .nil | exact .cell (.tmp .nil) | exact .tmp (.tmp .nil) | exact .cell (.cell .nil) | exact .tmp (.cell .nil) | exact .nil | exact .tmp (.cell (.tmp .nil)) | exact .cell (.tmp (.tmp .nil)) | exact .cell (.cell (.tmp .nil)) | exact .tmp (.tmp (.tmp .nil)) | exact .tmp (.tmp (.tmp (.tmp .nil))) | exact .cell (.cell (.cell .nil))) ?_
    simp at q
    simp [oneOf, inB, q]
  · (refine St.skip ?_; refine St.skip ?_; refine St.skip ?_; refine St.pickF ?_; refine St.assign ?_; refine WO.nil ?_)
    refine St.ret (by first | exact .tmp .nil | exact .cell .nil | exact .cell (.tmp .nil) | exact .tmp (.tmp .nil) | exact .cell (.cell .nil) | exact .tmp (.cell .nil) | exact .nil | exact .tmp (.cell (.tmp .nil)) | exact .cell (.tmp (.tmp .nil)) | exact .cell (.cell (.tmp .nil)) | exact .tmp (.tmp (.tmp .nil)) | exact .tmp (.tmp (.tmp (.tmp .nil))) | exact .cell (.cell (.cell .nil))) ?_
    simp at q
    have : ¬ lo ≤ n := by omega
    simp [oneOf, inB, this]
set_option maxRecDepth 100000 in
theorem isID_con (h : Heap) (g : Gd h) (n : Int) : Con Tryz.prog Bs 99 [.int .i64 n] h [] (.bool (inB n 1 1099511627776)) [] := by
  refine Con.start rfl Tryz.func99 rfl rfl Tryz.ntmps99 rfl rfl g ?_
  (refine WK.seq ?_; refine WK.region ?_; refine St.assign ?_; refine WO.nil ?_; refine WK.seq ?_; refine WK.region ?_; refine St.move ?_)
  refine St.call (fun _ => rfl) (fun h2 hh => within_con h2 hh.gd n 1 1099511627776) ?_
  (refine St.assign ?_; refine WO.nil ?_)
  refine St.ret (by first | exact .tmp .nil | exact .cell .nil | exact .cell (.tmp .nil) | exact .tmp (.tmp .nil) | exact .cell (.cell .nil) | exact .tmp (.cell .nil) | exact .nil | exact .tmp (.cell (.tmp .nil)) | exact .cell (.tmp (.tmp .nil)) | exact .cell (.cell (.tmp .nil)) | exact .tmp (.tmp (.tmp .nil)) | exact .tmp (.tmp (.tmp (.tmp .nil))) | exact .cell (.cell (.cell .nil))) ?_
  rfl
set_option maxRecDepth 100000 in
theorem isDay_con (h : Heap) (g : Gd h) (n : Int) : Con Tryz.prog Bs 78 [.int .i64 n] h [] (.bool (inB n 0 728)) [] := by
  refine Con.start rfl Tryz.func78 rfl rfl Tryz.ntmps78 rfl rfl g ?_
  (refine WK.seq ?_; refine WK.region ?_; refine St.assign ?_; refine WO.nil ?_; refine WK.seq ?_; refine WK.region ?_; refine St.move ?_)
  refine St.call (fun _ => rfl) (fun h2 hh => within_con h2 hh.gd n 0 728) ?_
  (refine St.assign ?_; refine WO.nil ?_)
  refine St.ret (by first | exact .tmp .nil | exact .cell .nil | exact .cell (.tmp .nil) | exact .tmp (.tmp .nil) | exact .cell (.cell .nil) | exact .tmp (.cell .nil) | exact .nil | exact .tmp (.cell (.tmp .nil)) | exact .cell (.tmp (.tmp .nil)) | exact .cell (.cell (.tmp .nil)) | exact .tmp (.tmp (.tmp .nil)) | exact .tmp (.tmp (.tmp (.tmp .nil))) | exact .cell (.cell (.cell .nil))) ?_
  rfl
set_option maxRecDepth 100000 in
theorem rDay_con (h : Heap) (g : Gd h) (n : Int) : Con Tryz.prog Bs 75 [.int .i64 n] h [] (.bool (inB n 0 728)) [] := by
  refine Con.start rfl Tryz.func75 rfl rfl Tryz.ntmps75 rfl rfl g ?_
  (refine WK.seq ?_; refine WK.region ?_; refine St.assign ?_; refine WO.nil ?_; refine WK.seq ?_; refine WK.region ?_; refine St.move ?_)
  refine St.call (fun _ => rfl) (fun h2 hh => rwithin_con h2 hh.gd n 0 728) ?_
  (refine St.assign ?_; refine WO.nil ?_)
  refine St.ret (by first | exact .tmp .nil | exact .cell .nil | exact .cell (.tmp .nil) | exact .tmp (.tmp .nil) | exact .cell (.cell .nil) | exact .tmp (.cell .nil) | exact .nil | exact .tmp (.cell (.tmp .nil)) | exact .cell (.tmp (.tmp .nil)) | exact .cell (.cell (.tmp .nil)) | exact .tmp (.tmp (.tmp .nil)) | exact .tmp (.tmp (.tmp (.tmp .nil))) | exact .cell (.cell (.cell .nil))) ?_
  rfl
end Go.Proofs.YtkebbdpfjhhdhaaGreat
