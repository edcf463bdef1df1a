/- Layer 8 over the calculator's memory: what is known, postings, Chain. -/
import Derived.Test.YtnihpojigpomkaaGreatProg
import Derived.Test.YtnihpojigpomkaaGreatEvX
namespace Go.Proofs.YtnihpojigpomkaaGreat
open Go.Proofs.YtnihpojigpomkaaGreat.Ev

structure Po where
  it : Int
  dy : Int
  ac : Int
  am : Int
deriving Inhabited
def poC (x : Po) : List AV := [.int .i64 x.it, .int .i64 x.dy, .int .i64 x.ac, .int .i64 x.am]
/-- sanity() is known to say true -/
def Bs : Base := sayB 6
theorem sanity_con (h : Heap) (g : Gd h) : Con Tryz.prog Bs 6 [] h [] (.bool true) [] := Con.base rfl g
def inB (n lo hi : Int) : Bool := decide (lo ≤ n ∧ n ≤ hi)
def chB (b : Int) (x : Po) : Bool := inB b 0 2147483646 && (inB x.it 1 1099511627776 && (inB x.ac 1 1099511627776 && (inB x.dy 0 728 && inB x.am (-16777216) 16777216)))
def chS (b : Int) (x : Po) : Int := Int.tmod (31 * b + x.it + 3 * x.dy + 5 * x.ac + 7 * x.am) 2147483647
def chV (b : Int) (x : Po) : Int := if chB b x = true then (if chS b x < 0 then chS b x + 2147483647 else chS b x) else 0
def chE (b : Int) (x : Po) : Int := if chB b x = true then 0 else 1
end Go.Proofs.YtnihpojigpomkaaGreat
