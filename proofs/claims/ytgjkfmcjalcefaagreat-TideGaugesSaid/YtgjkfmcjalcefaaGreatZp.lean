/- Plain: sorted ints; rows of six ints, sorted by the first one. No walk. -/
import Derived.WalkKit
import Derived.Sort.OwnSortedInts
import Derived.Sort.Defs
import Derived.Laws.MathBits
import Derived.Lib.BitFns
namespace Go.Proofs.YtgjkfmcjalcefaaGreat
open Go.Sort Go.RowKit

def sortX (l : List Int) : List Int := l.mergeSort fun x y => decide (x ≤ y)
theorem sortX_len (l : List Int) : (sortX l).length = l.length := List.length_mergeSort ..
/-- a row -/
structure Rw where
  id : Int
  b : Int
  c : Int
  d : Int
  e : Int
  f : Int
def rwOk (r : Rw) : Bool := decide (-2305843009213693952 ≤ r.id) && decide (r.id ≤ 2305843009213693952)
abbrev Rb := { r : Rw // rwOk r = true }
instance : Inhabited Rb := ⟨⟨⟨0, 0, 0, 0, 0, 0⟩, rfl⟩⟩
def flR : List Rb → List Int := fun ps => ps.flatMap fun p => [p.1.id, p.1.b, p.1.c, p.1.d, p.1.e, p.1.f]
def okR : List Int → Bool
  | [] => true
  | a :: b :: c :: d :: e :: f :: l => rwOk ⟨a, b, c, d, e, f⟩ && okR l
  | _ => false
def unR : List Int → List Rb
  | a :: b :: c :: d :: e :: f :: l => if h : rwOk ⟨a, b, c, d, e, f⟩ = true then ⟨⟨a, b, c, d, e, f⟩, h⟩ :: unR l else unR l
  | _ => []
theorem flR_cons (p : Rb) (ps : List Rb) : flR (p :: ps) = p.1.id :: p.1.b :: p.1.c :: p.1.d :: p.1.e :: p.1.f :: flR ps := by simp [flR]
theorem flR_un : ∀ {zs : List Int}, okR zs = true → flR (unR zs) = zs
  | [], _ => rfl
  | [_], h => by simp [okR] at h
  | [_, _], h => by simp [okR] at h
  | [_, _, _], h => by simp [okR] at h
  | [_, _, _, _], h => by simp [okR] at h
  | [_, _, _, _, _], h => by simp [okR] at h
  | a :: b :: c :: d :: e :: f :: l, h => by
    simp only [okR, Bool.and_eq_true] at h
    simp only [unR]
    rw [dif_pos h.1, flR_cons, flR_un h.2]
theorem unR_fl : ∀ ps : List Rb, unR (flR ps) = ps
  | [] => rfl
  | p :: ps => by
    rw [flR_cons]
    simp only [unR]
    rw [dif_pos p.2, unR_fl ps]
theorem okR_fl : ∀ ps : List Rb, okR (flR ps) = true
  | [] => rfl
  | p :: ps => by
    rw [flR_cons]
    simp only [okR, Bool.and_eq_true]
    exact ⟨p.2, okR_fl ps⟩
theorem flR_len (ps : List Rb) : (flR ps).length = ps.length * 6 := by
  induction ps with
  | nil => rfl
  | cons p ps ih => rw [flR_cons]; simp [ih]; omega
/-- what the comparison of two rows answers -/
def cmpR (x y : Rb) : Int := x.1.id - y.1.id
def sortR (ps : List Rb) : List Rb := (pdq (fun x y : Rb => decide (cmpR x y < 0)) ps.toArray 0 ps.length (Lib.bitLen ps.length) true true).toList
def sortZ (zs : List Int) : List Int := if okR zs = true then flR (sortR (unR zs)) else zs
end Go.Proofs.YtgjkfmcjalcefaaGreat
