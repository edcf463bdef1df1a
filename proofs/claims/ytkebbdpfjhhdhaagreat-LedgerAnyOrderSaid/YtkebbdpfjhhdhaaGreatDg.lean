/- Layer 8: items, plain: which are formed, the error of a list. -/
import Derived.Test.YtkebbdpfjhhdhaaGreatProg
import Derived.Test.YtkebbdpfjhhdhaaGreatEvX
/- Layer 8, plain: postings, Chain. -/
namespace Go.Proofs.YtkebbdpfjhhdhaaGreat
open Go.Proofs.YtkebbdpfjhhdhaaGreat.Ev

structure Po where
  it : Int
  dy : Int
  ac : Int
  am : Int
deriving Inhabited
def poC (x : Po) : List AV := [.int .i64 x.it, .int .i64 x.dy, .int .i64 x.ac, .int .i64 x.am]
def inB (n lo hi : Int) : Bool := decide (lo ≤ n ∧ n ≤ hi)
def chB (b : Int) (x : Po) : Bool := inB b 0 2147483646 && (inB x.it 1 1099511627776 && (inB x.ac 1 1099511627776 && (inB x.dy 0 728 && inB x.am (-16777216) 16777216)))
def chS (b : Int) (x : Po) : Int := Int.tmod (31 * b + x.it + 3 * x.dy + 5 * x.ac + 7 * x.am) 2147483647
def chV (b : Int) (x : Po) : Int := if chB b x = true then (if chS b x < 0 then chS b x + 2147483647 else chS b x) else 0
def chE (b : Int) (x : Po) : Int := if chB b x = true then 0 else 1
end Go.Proofs.YtkebbdpfjhhdhaaGreat

/- Layer 8: items, plain: which are formed, the error of a list. -/
namespace Go.Proofs.YtkebbdpfjhhdhaaGreat
structure Im where
  id : Int
  kn : Int
  kd : Int
  dy : Int
  bl : Int
  ac : Int
  am : Int
deriving Inhabited, DecidableEq
open Go.Proofs.YtkebbdpfjhhdhaaGreat.Ev in
def imC (x : Im) : List AV := [.int .i64 x.id, .int .i64 x.kn, .int .i64 x.kd, .int .i64 x.dy, .int .i64 x.bl, .int .i64 x.ac, .int .i64 x.am]
def idB (n : Int) : Bool := inB n 1 1099511627776
def dyB (n : Int) : Bool := inB n 0 728
def otB (n : Int) : Bool := inB n 10 1099511627776
def kndI (x : Im) : Bool :=
  if x.kd = 1 then dyB x.dy && (idB x.bl && (otB x.ac && inB x.am 0 16777216))
  else if x.kd = 2 then decide (x.dy = 0) && (idB x.bl && (decide (x.ac = 0) && inB x.am 0 16777216))
  else if x.kd = 3 ∨ x.kd = 4 ∨ x.kd = 5 ∨ x.kd = 6 then dyB x.dy && (decide (x.bl = 0) && (otB x.ac && inB x.am 1 16777216))
  else if x.kd = 7 then dyB x.dy && (decide (x.bl = 0) && (decide (x.ac = 0) && decide (x.am = 0)))
  else false
/-- whether an item is formed -/
def frmI (x : Im) : Bool := idB x.id && (dyB x.kn && kndI x)
/-- the place of the first thing that passes a test -/
def idxG {α : Type} (t : α → Bool) : List α → Nat → Int
  | [], _ => -1
  | x :: r, k => if t x = true then (k : Int) else idxG t r (k + 1)
theorem idxG_any {α : Type} {t : α → Bool} : ∀ {l : List α} {k : Nat}, decide (idxG t l k ≥ 0) = l.any t
  | [], _ => by simp [idxG]
  | x :: r, k => by
    rw [idxG, List.any_cons]
    cases h : t x
    · simpa using idxG_any
    · simp
/-- an item that has the other one's ID, and is another one -/
def twI (x y : Im) : Bool := decide (y.id = x.id) && !decide (y = x)
/-- the first error of items, behind those before it -/
def errI : List Im → List Im → Int
  | _, [] => 0
  | pre, x :: r => if frmI x = false then 1 else if pre.any (twI x) = true then 6 else errI (pre ++ [x]) r
def chkI (l : List Im) : Int := if 60 < l.length then 2 else errI [] l
theorem errI_ok : ∀ {l pre : List Im}, errI pre l = 0 → (∀ x ∈ l, frmI x = true) ∧ ∀ i (h : i < l.length), (pre ++ l.take i).any (twI l[i]) = false
  | [], _, _ => ⟨(fun _ h => nomatch h), (fun i h => absurd h (by simp))⟩
  | x :: r, pre, h => by
    unfold errI at h
    split at h
    · simp at h
    · rename_i h1
      split at h
      · simp at h
      · rename_i h2
        obtain ⟨h3, h4⟩ := errI_ok h
        refine ⟨fun y hy => ?_, fun i hi => ?_⟩
        · rcases List.mem_cons.1 hy with rfl | hy
          · simpa using h1
          · exact h3 y hy
        · cases i with
          | zero => simpa using h2
          | succ i =>
            have := h4 i (by simpa using hi)
            simpa using this
end Go.Proofs.YtkebbdpfjhhdhaaGreat
