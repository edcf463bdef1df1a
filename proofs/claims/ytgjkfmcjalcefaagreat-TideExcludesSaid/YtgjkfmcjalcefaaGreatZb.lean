/- Sightings: without the only one; Suspects of the program. -/
import Derived.Test.YtgjkfmcjalcefaaGreatZa
namespace Go.Proofs.YtgjkfmcjalcefaaGreat
open Go.Proofs.YtgjkfmcjalcefaaGreat.Ev

theorem perm_cnt {α : Type} {l1 l2 : List α} (h : ∀ (_ : DecidableEq α) (a : α), l1.count a = l2.count a) : l1.Perm l2 := by
  classical exact List.perm_iff_count.2 fun a => h _ a
/-! suspects -/
def susTo (cs : List Cy) (ss : List Sh) (l : List Ga) : Nat → List Int
  | 0 => []
  | k + 1 => susTo cs ss l k ++ if fitG cs ss (l.eraseIdx k) = true then [(nthG l k).id] else []
def susR (lv : Int) (cs : List Cy) (ss : List Sh) (l : List Ga) : List Int × Int :=
  if chkGs lv cs ss l ≠ 0 then ([], chkGs lv cs ss l) else if fitG cs ss l = true then ([], 0) else (sortX (susTo cs ss l l.length), 0)
theorem Bs_sort (i n : Nat) (c : ACap) (h : Heap) : Bs.ans 48 [.slice i 0 n c] h = inplA 48 sortX (fun _ _ _ => .tup []) 48 [.slice i 0 n c] h := (orB_right rfl).trans (orB_left rfl)
theorem Bs_sort0 (h : Heap) : Bs.ans 48 (nilArgs none) h = nilA 48 none 48 (nilArgs none) h := (orB_right rfl).trans ((orB_right rfl).trans ((orB_right rfl).trans ((orB_right rfl).trans (orB_left rfl))))
end Go.Proofs.YtgjkfmcjalcefaaGreat
