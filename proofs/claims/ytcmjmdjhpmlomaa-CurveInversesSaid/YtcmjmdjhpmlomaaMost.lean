
/- The contracts of foremost, at fractions and at ends. -/
import Derived.Test.YtcmjmdjhpmlomaaVal
namespace Go.Proofs.Ytcmjmdjhpmlomaa
open Go.RowKit

/-- the index of the first one of the first k that no other one goes before -/
def bestIx {α : Type} (lt : α → α → Bool) (d : α) (l : List α) : Nat → Nat
  | 0 => 0
  | k + 1 => if lt (l[k]?.getD d) (l[bestIx lt d l k]?.getD d) then k else bestIx lt d l k
theorem bestIx_lt {α : Type} (lt : α → α → Bool) (d : α) (l : List α) : ∀ {k : Nat}, k ≤ l.length → 0 < l.length → bestIx lt d l k < l.length
  | 0, _, h => h
  | k + 1, h, h0 => by
    unfold bestIx
    split
    · omega
    · exact bestIx_lt lt d l (by omega) h0

/-- both ends of a range -/
structure En where
  a : Int
  b : Int
  c : Int
  d : Int
def En.Ok (x : En) : Prop := Small x.a x.b ∧ Small x.c x.d

end Go.Proofs.Ytcmjmdjhpmlomaa
