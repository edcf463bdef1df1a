/- Plain facts of layer 9: groups of arbiters as bits, the promises of a round. No walk, no number of a function. -/
import Derived.Test.YtehmkhlcejcniaaKp
namespace Go.Proofs.Ytehmkhlcejcniaa
/-- how many arbiters are in a group -/
def popN (g : Nat) : Nat := ((List.range 7).filter fun i => g.testBit i).length
def prmB (rd : Int) (y : Le) : Bool := decide (y.kd = 2) && decide (y.rd = rd)
/-- the promises of a round, in a list of one case -/
def prms (l : List Le) (rd : Int) : List Le := l.filter (prmB rd)
theorem prms_at {l : List Le} {rd : Int} {i : Nat} (hi : i < l.length) (h : prmB rd (atL l i) = true) : (prms (l.take i) rd).length < (prms l rd).length ∧ atL (prms l rd) (prms (l.take i) rd).length = atL l i ∧ (prms (l.take (i + 1)) rd).length = (prms (l.take i) rd).length + 1 := by
  have e : atL l i = l[i] := by unfold atL; simp [hi]
  rw [e] at h
  have h1 : prms l rd = prms (l.take i) rd ++ (l[i] :: prms (l.drop (i + 1)) rd) := by
    unfold prms
    conv => lhs; rw [← List.take_append_drop i l]
    rw [List.filter_append, List.drop_eq_getElem_cons hi, List.filter_cons, if_pos h]
  refine ⟨?_, ?_, ?_⟩
  · rw [h1, List.length_append, List.length_cons]; omega
  · rw [h1]
    unfold atL
    rw [List.getElem?_append_right (Nat.le_refl _), Nat.sub_self]
    simp [hi]
  · unfold prms
    rw [List.take_succ_eq_append_getElem hi, List.filter_append, List.filter_cons, if_pos h, List.length_append]
    rfl
theorem prms_no {l : List Le} {rd : Int} {i : Nat} (hi : i < l.length) (h : prmB rd (atL l i) = false) : (prms (l.take (i + 1)) rd).length = (prms (l.take i) rd).length := by
  have e : atL l i = l[i] := by unfold atL; simp [hi]
  rw [e] at h
  unfold prms
  rw [List.take_succ_eq_append_getElem hi, List.filter_append, List.filter_cons, if_neg (by rw [h]; simp), List.length_append]
  rfl
theorem prms_mem {l : List Le} {rd : Int} {k : Nat} (h : k < (prms l rd).length) : atL (prms l rd) k ∈ l ∧ prmB rd (atL (prms l rd) k) = true := by
  have e : atL (prms l rd) k = (prms l rd)[k] := by unfold atL; simp [h]
  rw [e]
  exact List.mem_filter.1 (List.getElem_mem h)
/-- the arbiters of the first k promises whose Voted is at most a round -/
def bitsTo (p : List Le) (last : Int) : Nat → Nat
  | 0 => 0
  | k + 1 => if (atL p k).vo ≤ last then bitsTo p last k ||| 2 ^ (atL p k).fr.toNat else bitsTo p last k
def vBits (l : List Le) (rd last : Int) : Nat := bitsTo (prms l rd) last (prms l rd).length
theorem or_lt {g a : Nat} (hg : g < 128) (ha : a < 7) : g ||| 2 ^ a < 128 := by
  have h2 : 2 ^ a < 2 ^ 7 := Nat.pow_lt_pow_right (by omega) ha
  exact Nat.or_lt_two_pow (n := 7) hg h2
theorem bits_lt {p : List Le} {last : Int} : ∀ {k : Nat}, (∀ i, i < k → 0 ≤ (atL p i).fr ∧ (atL p i).fr < 7) → bitsTo p last k < 128
  | 0, _ => by simp [bitsTo]
  | k + 1, h => by
    have ih := bits_lt (p := p) (last := last) (k := k) fun i hi => h i (by omega)
    have := h k (by omega)
    rw [bitsTo]
    split
    · exact or_lt ih (by omega)
    · exact ih
end Go.Proofs.Ytehmkhlcejcniaa
