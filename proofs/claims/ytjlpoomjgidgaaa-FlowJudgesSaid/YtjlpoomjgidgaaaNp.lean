/- Plain facts of layer 5: the edges of a trade's network. No walk, no number of a function. -/
import Derived.Test.YtjlpoomjgidgaaaGp
namespace Go.Proofs.Ytjlpoomjgidgaaa
/-- an edge: a movement, the nodes at its ends, what flows -/
structure Ed where
  id : Int
  fr : Int
  to : Int
  lo : Int
  hi : Int
  a : Int
  b : Int
  fl : Int
instance : Inhabited Ed := ⟨⟨0, 0, 0, 0, 0, 0, 0, 0⟩⟩
def eSt (i : Nat) (h : Ho) : Ed := ⟨0, 0, h.id, h.sl, h.sh, 0, (i : Int) + 1, 0⟩
def eEn (i : Nat) (h : Ho) : Ed := ⟨0, h.id, 0, h.el, h.eh, (i : Int) + 1, 0, 0⟩
def eMv (hs : List Ho) (m : Mv) : Ed := ⟨m.id, m.fr, m.to, m.lo, m.hi, plI (hids hs) m.fr + 1, plI (hids hs) m.to + 1, 0⟩
def stTo (hs : List Ho) (k : Nat) : List Ed := (List.range k).map fun i => eSt i (hs[i]?.getD default)
def enTo (hs : List Ho) (k : Nat) : List Ed := (List.range k).map fun i => eEn i (hs[i]?.getD default)
def mvTo (hs : List Ho) (ms : List Mv) (k : Nat) : List Ed := (ms.take k).map (eMv hs)
/-- the edges of a trade's network -/
def edges (hs : List Ho) (ms : List Mv) : List Ed := stTo hs hs.length ++ enTo hs hs.length ++ ms.map (eMv hs)
theorem stTo_len (hs : List Ho) (k : Nat) : (stTo hs k).length = k := by simp [stTo]
theorem enTo_len (hs : List Ho) (k : Nat) : (enTo hs k).length = k := by simp [enTo]
theorem mvTo_len (hs : List Ho) (ms : List Mv) {k : Nat} (h : k ≤ ms.length) : (mvTo hs ms k).length = k := by simp [mvTo]; omega
theorem stTo_succ (hs : List Ho) (k : Nat) : stTo hs (k + 1) = stTo hs k ++ [eSt k (hs[k]?.getD default)] := by simp [stTo, List.range_succ]
theorem enTo_succ (hs : List Ho) (k : Nat) : enTo hs (k + 1) = enTo hs k ++ [eEn k (hs[k]?.getD default)] := by simp [enTo, List.range_succ]
theorem mvTo_succ (hs : List Ho) (ms : List Mv) {k : Nat} (h : k < ms.length) : mvTo hs ms (k + 1) = mvTo hs ms k ++ [eMv hs (ms[k]?.getD default)] := by
  unfold mvTo
  rw [List.take_succ_eq_append_getElem h, List.map_append]
  simp [h]
theorem edges_len (hs : List Ho) (ms : List Mv) : (edges hs ms).length = hs.length + hs.length + ms.length := by
  simp only [edges, List.length_append, stTo_len, enTo_len, List.length_map]
theorem plF_lo {n : Int} : ∀ {l : List Int} {k : Nat}, -1 ≤ plF n l k
  | [], _ => by simp [plF]
  | x :: r, k => by
    rw [plF]
    split
    · omega
    · exact plF_lo
theorem plF_hi {n : Int} : ∀ {l : List Int} {k : Nat}, plF n l k < (k : Int) + l.length
  | [], k => by simp only [plF, List.length_nil]; omega
  | x :: r, k => by
    rw [plF, List.length_cons]
    split
    · omega
    · have := plF_hi (n := n) (l := r) (k := k + 1)
      omega
theorem plI_lo {l : List Int} {n : Int} : -1 ≤ plI l n := plF_lo
theorem plI_hi {l : List Int} {n : Int} : plI l n < l.length := by
  have := plF_hi (n := n) (l := l) (k := 0)
  unfold plI
  omega
end Go.Proofs.Ytjlpoomjgidgaaa
