/- Layer 8: what accounts hold. -/
import Derived.Test.YtkebbdpfjhhdhaaGreatFb
import Derived.Test.YtkebbdpfjhhdhaaGreatFo
/- Layer 8: only and sums of balances over the calculator's memory. -/
namespace Go.Proofs.YtkebbdpfjhhdhaaGreat
open Go.Proofs.YtkebbdpfjhhdhaaGreat.Ev

structure Ba where
  ac : Int
  am : Int
deriving Inhabited, DecidableEq
def baC (x : Ba) : List AV := [.int .i64 x.ac, .int .i64 x.am]
abbrev BaH := EH baC 2
abbrev BaV := EV baC 2
theorem BaV.llen {h : Heap} {v : AV} {l : List Ba} (k : BaV h v l) : ∀ h2, lenA Tryz.prog 38 h2 v = some (.int .i64 (l.length : Int)) := EV.len k Tryz.underlying38
end Go.Proofs.YtkebbdpfjhhdhaaGreat

/- Layer 8: what accounts hold. -/
namespace Go.Proofs.YtkebbdpfjhhdhaaGreat
open Go.Proofs.YtkebbdpfjhhdhaaGreat.Ev

def inC (n : Int) : List AV := [.int .i64 n]
/-- what postings up to a day bring -/
def hldP (ps : List Po) (d : Int) : List (Int × Int) := (ps.filter fun p => decide (p.dy ≤ d)).map fun p => (p.ac, p.am)
/-- accounts with what they hold, by their numbers -/
def balL (q : List (Int × Int)) : List Ba := (srtI (q.map (·.1))).map fun a => ⟨a, getQ q a⟩
end Go.Proofs.YtkebbdpfjhhdhaaGreat
