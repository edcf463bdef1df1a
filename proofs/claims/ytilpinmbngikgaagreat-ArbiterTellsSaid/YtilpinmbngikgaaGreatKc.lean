/- Layer 9: isMajority; promises of a round as an iterator; votedUpTo. -/
import Derived.Test.YtilpinmbngikgaaGreatKb
import Derived.Test.YtilpinmbngikgaaGreatKa
namespace Go.Proofs.YtilpinmbngikgaaGreat
open Go.Proofs.YtilpinmbngikgaaGreat.Ev

set_option maxRecDepth 100000 in
set_option maxHeartbeats 8000000 in
theorem onesCount_con (h : Heap) (g : Gd h) (n : Nat) (hn : n < 128) : Con Tryz.prog Bs 68 [.int .u64 n] h [] (.int .i64 (popN n)) [] := by
  obtain ⟨f, hf, hk⟩ := ones_ex
  refine Con.start rfl Tryz.func68 rfl rfl Tryz.ntmps68 rfl rfl g ?_
  (refine WK.seq ?_; refine WK.region ?_; refine St.assign ?_; refine WO.nil ?_; refine WK.seq ?_; refine WK.condF ?_; refine WK.skip ?_; refine WK.seq ?_; refine WK.region ?_; refine St.move ?_)
  refine St.call (fun _ => rfl) (fun h2 hh => hf h2 hh.gd n) ?_
  rw [hk n hn]
  (refine St.assign ?_; refine WO.nil ?_)
  refine St.ret (by first | exact .tmp .nil | exact .cell .nil | exact .cell (.tmp .nil) | exact .tmp (.tmp .nil) | exact .cell (.cell .nil) | exact .tmp (.cell .nil) | exact .nil | exact .tmp (.cell (.tmp .nil)) | exact .cell (.tmp (.tmp .nil)) | exact .cell (.cell (.tmp .nil)) | exact .tmp (.tmp (.tmp .nil)) | exact .tmp (.tmp (.tmp (.tmp .nil))) | exact .cell (.cell (.cell .nil))) ?_
  rfl
set_option maxRecDepth 100000 in
set_option maxHeartbeats 8000000 in
theorem isMajority_con (h : Heap) (g : Gd h) (c : Int) (n : Nat) (hn : n < 128) : Con Tryz.prog Bs 42 [.int .u64 n, .agg [.int .i64 c]] h [] (.bool (decide ((popN n : Int) ≥ maj c))) [] := by
  refine Con.start rfl Tryz.func42 rfl rfl Tryz.ntmps42 rfl rfl g ?_
  (refine WK.seq ?_; refine WK.region ?_; refine St.box fun _ _ => ?_; refine St.assign ?_; refine WO.nil ?_; refine WK.seq ?_; refine WK.regionD ?_; refine St.move ?_)
  refine St.call (fun _ => rfl) (fun h2 hh => onesCount_con h2 hh.gd n hn) ?_
  (refine St.load ?_)
  refine St.call (fun _ => rfl) (fun h2 hh => majority_con h2 hh.gd c) ?_
  (refine St.bin ?_; refine St.assign ?_; refine WO.nil ?_)
  refine St.ret (by first | exact .tmp .nil | exact .cell .nil | exact .cell (.tmp .nil) | exact .tmp (.tmp .nil) | exact .cell (.cell .nil) | exact .tmp (.cell .nil) | exact .nil | exact .tmp (.cell (.tmp .nil)) | exact .cell (.tmp (.tmp .nil)) | exact .cell (.cell (.tmp .nil)) | exact .tmp (.tmp (.tmp .nil)) | exact .tmp (.tmp (.tmp (.tmp .nil))) | exact .cell (.cell (.cell .nil))) ?_
  rfl
end Go.Proofs.YtilpinmbngikgaaGreat
