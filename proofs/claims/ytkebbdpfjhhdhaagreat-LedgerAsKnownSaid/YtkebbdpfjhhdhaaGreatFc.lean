/- Layer 8: only and sums of balances over the calculator's memory. -/
import Derived.Test.YtkebbdpfjhhdhaaGreatDs
import Derived.Test.YtkebbdpfjhhdhaaGreatDv
import Derived.Test.YtkebbdpfjhhdhaaGreatFb
/- Layer 8: the reference's ahead; SameItems of lists that are the same. -/
namespace Go.Proofs.YtkebbdpfjhhdhaaGreat
open Go.Proofs.YtkebbdpfjhhdhaaGreat.Ev

instance (x y : Im) : Decidable (LtJ x y) := by unfold LtJ; infer_instance
end Go.Proofs.YtkebbdpfjhhdhaaGreat

/- Layer 8: only and sums of balances over the calculator's memory. -/
namespace Go.Proofs.YtkebbdpfjhhdhaaGreat
open Go.Proofs.YtkebbdpfjhhdhaaGreat.Ev

structure Ba where
  ac : Int
  am : Int
deriving Inhabited, DecidableEq
def baC (x : Ba) : List AV := [.int .i64 x.ac, .int .i64 x.am]
abbrev BaH := EH baC 2
abbrev BaV := EV baC 2
theorem BaV.llen {h : Heap} {v : AV} {l : List Ba} (k : BaV h v l) : ∀ h2, lenA Tryz.prog 38 h2 v = some (.int .i64 (l.length : Int)) := EV.len k Tryz.underlying38
end Go.Proofs.YtkebbdpfjhhdhaaGreat
