
/- The contracts of peak and over. -/
import Derived.Test.YtcmjmdjhpmlomaaMost
import Derived.Test.YtcmjmdjhpmlomaaCorn
namespace Go.Proofs.Ytcmjmdjhpmlomaa
open Go.RowKit

theorem info_frac : (Try.prog.info? 23).map (fun i => (i.zero, i.size, i.bytes)) = some (some (.agg #[.int .i64 0, .int .i64 0]), 2, 16) := by kernel_rfl

def lessF (x y : Int × Int) : Bool := decide (ordF x.1 x.2 y.1 y.2 < 0)
def moreF (x y : Int × Int) : Bool := decide (0 < ordF x.1 x.2 y.1 y.2)
/-- a list of fractions, cell by cell -/
def flatF (l : List (Int × Int)) : List Value := l.flatMap fun f => [Value.int .i64 f.1, Value.int .i64 f.2]
theorem flatF_len : ∀ (l : List (Int × Int)), (flatF l).length = l.length * 2
  | [] => rfl
  | f :: l => by have := flatF_len l; simp [flatF] at this ⊢; omega
theorem flatF_get : ∀ (l : List (Int × Int)) (i : Nat) (h : i < l.length), (flatF l)[i * 2]? = some (.int .i64 l[i].1) ∧ (flatF l)[i * 2 + 1]? = some (.int .i64 l[i].2)
  | [], i, h => by simp at h
  | f :: l, 0, _ => by simp [flatF]
  | f :: l, i + 1, h => by
    have h1 := flatF_get l i (by simpa using h)
    have e : flatF (f :: l) = Value.int .i64 f.1 :: Value.int .i64 f.2 :: flatF l := by simp [flatF]
    rw [e, show (i + 1) * 2 = i * 2 + 1 + 1 by omega]
    simpa using h1

/-- least, greatest, and where first -/
structure Pk where
  ln : Int
  ld : Int
  hn : Int
  hd : Int
  al : Int
  ah : Int
def pkOf (xs : List Int) (fs : List (Int × Int)) : Pk :=
  let i := bestIx lessF (0, 0) fs fs.length
  let j := bestIx moreF (0, 0) fs fs.length
  ⟨(fs[i]?.getD (0, 0)).1, (fs[i]?.getD (0, 0)).2, (fs[j]?.getD (0, 0)).1, (fs[j]?.getD (0, 0)).2, xs[i]?.getD 0, xs[j]?.getD 0⟩

theorem ownsRow_up {w w' : World} {B n size : Nat} {e : TypeId} {v : Value} {xs : List Value} (h : w.ownsRow B e size v n xs) (hb : Below w.heap.size w w') : w'.ownsRow B e size v n xs :=
  h.kept (grownBy_of_below hb) (by cases hv : v.ownBlock <;> simp)
theorem flatF_snoc (l : List (Int × Int)) (f : Int × Int) : flatF (l ++ [f]) = flatF l ++ [Value.int .i64 f.1, Value.int .i64 f.2] := by simp [flatF]

/-! over -/
def valF (ks : List (Int × Int)) (x : Int) : Int × Int := (valN ks x, valD ks x)
def overK (ks : List (Int × Int)) (lo hi : Int) : Pk := pkOf (cornX lo hi [⟨none, 0, ks, 0⟩]) ((cornX lo hi [⟨none, 0, ks, 0⟩]).map (valF ks))

theorem cornX_ks {lo hi : Int} {l l' : List Cur} (h : l.map (·.ks) = l'.map (·.ks)) : cornX lo hi l = cornX lo hi l' := by
  unfold cornX rawX
  have : (l.flatMap fun c => innerX lo hi c.ks) = l'.flatMap fun c => innerX lo hi c.ks := by
    have e1 : (l.flatMap fun c => innerX lo hi c.ks) = (l.map (·.ks)).flatMap (innerX lo hi) := by rw [List.flatMap_map]
    have e2 : (l'.flatMap fun c => innerX lo hi c.ks) = (l'.map (·.ks)).flatMap (innerX lo hi) := by rw [List.flatMap_map]
    rw [e1, e2, h]
  rw [this]

theorem uniq_mem {l : List Int} {x : Int} (h : x ∈ uniq l) : x ∈ l := by
  unfold uniq Lib.compact Lib.compactUpTo at h
  obtain ⟨i, hi, rfl⟩ := List.mem_map.1 h
  have hi2 := List.mem_range.1 (List.mem_filter.1 hi).1
  have : l.toArray[i]! = l[i] := by rw [getElem!_pos _ i (by simpa using hi2)]; simp
  rw [this]
  exact List.getElem_mem _
theorem cornX_mem {lo hi x : Int} {l : List Cur} (hlh : lo ≤ hi) (h : x ∈ cornX lo hi l) : lo ≤ x ∧ x ≤ hi := by
  have h1 := uniq_mem h
  have h2 : x ∈ rawX lo hi l := (List.mergeSort_perm _ _).mem_iff.1 h1
  unfold rawX at h2
  rcases List.mem_append.1 h2 with h3 | h3
  · simp at h3; omega
  · obtain ⟨c, hc, hx⟩ := List.mem_flatMap.1 h3
    unfold innerX at hx
    obtain ⟨k, hk, rfl⟩ := List.mem_map.1 hx
    have := (List.mem_filter.1 hk).2
    simp at this
    omega

end Go.Proofs.Ytcmjmdjhpmlomaa
