/- The law TideMoreGauges over the calculator's memory. -/
import Derived.Test.YtgjkfmcjalcefaaGreatQc
import Derived.Test.YtgjkfmcjalcefaaGreatQq
import Derived.Test.YtgjkfmcjalcefaaGreatOg
import Derived.Test.YtgjkfmcjalcefaaGreatEv8
/- agrees, against, Rests of the program. -/
namespace Go.Proofs.YtgjkfmcjalcefaaGreat
open Go.Proofs.YtgjkfmcjalcefaaGreat.Ev

end Go.Proofs.YtgjkfmcjalcefaaGreat

/- Rests of the program; gauges that are an argument. -/
namespace Go.Proofs.YtgjkfmcjalcefaaGreat
open Go.ChangeShapes Go.WideShapes Go.ChangeAt Go.RowKit Go.Deep Go.Proofs.YtgjkfmcjalcefaaGreat.Ev

end Go.Proofs.YtgjkfmcjalcefaaGreat

/- The calculator's way through appends of a region that draws its order, at this seat. -/


/- The law TideMoreGauges over the calculator's memory. -/
namespace Go.Proofs.YtgjkfmcjalcefaaGreat
open Go.Proofs.YtgjkfmcjalcefaaGreat.Ev

/-- gauges that may be sliced -/
def GaA (h : Heap) (v : AV) (l : List Ga) : Prop := ((v = .slice0 ∨ v = .sliceZ) ∧ l = []) ∨ ∃ b off m, v = .slice b off l.length (.k m) ∧ l.length ≤ m ∧ GaH h b off l
def gaF (l : List Ga) : List AV := (l.map gaC).flatten
theorem Rds.app {h : Heap} {b : Nat} : ∀ {l m : List AV} {off : Nat}, Rds h b off l → Rds h b (off + l.length) m → Rds h b off (l ++ m)
  | [], m, off, _, r => by simpa using r
  | v :: l, m, off, r1, r2 => ⟨r1.1, Rds.app r1.2 (by rw [List.length_cons] at r2; rw [show off + 1 + l.length = off + (l.length + 1) by omega]; exact r2)⟩
theorem GaH.tak {h : Heap} {b off k : Nat} {l : List Ga} (q : GaH h b off l) : GaH h b off (l.take k) := fun i hi => by
  have h1 : i < l.length := by rw [List.length_take] at hi; omega
  have h2 : i < k := by rw [List.length_take] at hi; omega
  have e : nthG (l.take k) i = nthG l i := by simp [nthG, List.getElem?_take, h2]
  rw [e]
  exact q i h1
theorem GaH.drp {h : Heap} {b off k : Nat} {l : List Ga} (q : GaH h b off l) : GaH h b (off + k * 4) (l.drop k) := fun i hi => by
  have h1 : k + i < l.length := by rw [List.length_drop] at hi; omega
  have e : nthG (l.drop k) i = nthG l (k + i) := by simp [nthG]
  rw [e, show off + k * 4 + i * 4 = off + (k + i) * 4 by rw [Nat.add_mul]; omega]
  exact q _ h1
theorem GaH.id_ {h : Heap} {b off l} (k : GaH h b off l) {z : Int} {n : Nat} (e : z.toNat = n) (hi : n < l.length) : Rd h b (off + z.toNat * 4 + 0) (.int .i64 (nthG l n).id) := by
  subst e; exact (k _ hi).1
end Go.Proofs.YtgjkfmcjalcefaaGreat
