/- Plain facts of layer 5: trades, the first error of a trade. No walk, no number of a function. -/
import Derived.WalkKit
import Derived.Below
namespace Go.Proofs.Ytjlpoomjgidgaaa

/-- a holder, a movement -/
structure Ho where
  id : Int
  sl : Int
  sh : Int
  el : Int
  eh : Int
  bk : Int
structure Mv where
  id : Int
  fr : Int
  to : Int
  lo : Int
  hi : Int
instance : Inhabited Ho := ⟨⟨0, 0, 0, 0, 0, 0⟩⟩
instance : Inhabited Mv := ⟨⟨0, 0, 0, 0, 0⟩⟩
def idB (n : Int) : Bool := decide (1 ≤ n) && decide (n ≤ 1099511627776)
def maB (n : Int) : Bool := decide (0 ≤ n) && decide (n ≤ 65536)
def msB (a b : Int) : Bool := maB a && (maB b && decide (a ≤ b))
def hoOk (x : Ho) : Bool := idB x.id && (msB x.sl x.sh && (msB x.el x.eh && maB x.bk))
def mvOk (x : Mv) : Bool := idB x.id && (msB x.lo x.hi && !(x.fr == x.to))
/-- the place of a number in a list, -1 if it isn't there -/
def plF (n : Int) : List Int → Nat → Int
  | [], _ => -1
  | x :: r, k => if x = n then (k : Int) else plF n r (k + 1)
def plI (l : List Int) (n : Int) : Int := plF n l 0
theorem plF_no {n : Int} : ∀ {l : List Int} {k : Nat}, n ∉ l → plF n l k = -1
  | [], _, _ => rfl
  | x :: r, k, h => by
    rw [plF, if_neg (fun e => h (by simp [e])), plF_no (fun e => h (List.mem_cons_of_mem _ e))]
theorem plF_yes {n : Int} : ∀ {l : List Int} {k : Nat}, n ∈ l → (k : Int) ≤ plF n l k
  | x :: r, k, h => by
    rw [plF]
    split
    · exact Int.le_refl _
    · rename_i hx
      have := plF_yes (l := r) (k := k + 1) ((List.mem_cons.1 h).resolve_left (fun e => hx e.symm))
      omega
theorem plI_ge {l : List Int} {n : Int} : 0 ≤ plI l n ↔ n ∈ l := by
  constructor
  · intro h
    by_cases hm : n ∈ l
    · exact hm
    · unfold plI at h
      rw [plF_no hm] at h
      omega
  · intro h
    have := plF_yes (k := 0) h
    exact this
theorem plI_no {l : List Int} {n : Int} (h : n ∉ l) : plI l n = -1 := plF_no h
theorem plF_app {n : Int} : ∀ {l : List Int} {r : List Int} {k : Nat}, n ∉ l → plF n (l ++ r) k = plF n r (k + l.length)
  | [], r, k, _ => by simp
  | x :: l, r, k, h => by
    rw [List.cons_append, plF, if_neg (fun e => h (by simp [e])), plF_app (fun e => h (List.mem_cons_of_mem _ e)), List.length_cons]
    congr 1
    omega
theorem plF_in {n : Int} : ∀ {l : List Int} {r : List Int} {k : Nat}, n ∈ l → plF n (l ++ r) k < (k + l.length : Nat)
  | x :: l, r, k, h => by
    rw [List.cons_append, plF]
    split
    · simp only [List.length_cons]; omega
    · rename_i hx
      have := plF_in (l := l) (r := r) (k := k + 1) ((List.mem_cons.1 h).resolve_left (fun e => hx e.symm))
      simp only [List.length_cons]
      omega
theorem plI_at {l : List Int} {n : Int} {i : Nat} (hi : i < l.length) (he : l[i] = n) (h : n ∉ l.take i) : plI l n = i := by
  unfold plI
  conv => lhs; rw [← List.take_append_drop i l]
  rw [plF_app h, List.drop_eq_getElem_cons hi, plF, if_pos he, List.length_take, Nat.min_eq_left (by omega), Nat.zero_add]
theorem plI_lt {l : List Int} {n : Int} {i : Nat} (hi : i < l.length) (he : l[i] = n) : plI l n < (i : Int) ↔ n ∈ l.take i := by
  by_cases h : n ∈ l.take i
  · simp only [h, iff_true]
    have := plF_in (r := l.drop i) (k := 0) h
    rw [List.take_append_drop, List.length_take, Nat.min_eq_left (by omega), Nat.zero_add] at this
    exact this
  · rw [plI_at hi he h]
    simp [h]
def hids (l : List Ho) : List Int := l.map (·.id)
def mids (l : List Mv) : List Int := l.map (·.id)
def chkHo (seen : List Int) : List Ho → Int
  | [] => 0
  | x :: r => if hoOk x = false then 1 else if x.id ∈ seen then 6 else chkHo (seen ++ [x.id]) r
def mvErr (hs : List Ho) (x : Mv) : Int := if mvOk x = false then 1 else if x.fr ∉ hids hs ∨ x.to ∉ hids hs then 5 else 0
def chkMv (hs : List Ho) (seen : List Int) : List Mv → Int
  | [] => 0
  | x :: r => if mvErr hs x ≠ 0 then mvErr hs x else if x.id ∈ seen then 6 else chkMv hs (seen ++ [x.id]) r
def chkT (hs : List Ho) (ms : List Mv) : Int := if 9 < hs.length ∨ 24 < ms.length then 2 else if chkHo [] hs ≠ 0 then chkHo [] hs else chkMv hs [] ms
/-- the movements without some -/
def wout (ms : List Mv) (ids : List Int) : List Mv := ms.filter fun x => !decide (x.id ∈ ids)
end Go.Proofs.Ytjlpoomjgidgaaa
