/- The law TideAgain over the calculator's memory. -/
import Derived.Test.YtgjkfmcjalcefaaGreatUd
namespace Go.Proofs.YtgjkfmcjalcefaaGreat
open Go.Proofs.YtgjkfmcjalcefaaGreat.Ev

theorem CyV.ok {h : Heap} {v : AV} {l : List Cw} (k : CyV h v l) : okCell v = true := by
  rcases k with ⟨rfl | rfl, _⟩ | ⟨b, off, c, rfl, _⟩ <;> rfl
theorem ShV.ok {h : Heap} {v : AV} {l : List Sh} (k : ShV h v l) : okCell v = true := by
  rcases k with ⟨rfl | rfl, _⟩ | ⟨b, off, c, rfl, _⟩ <;> rfl
theorem store_w {P : Program} {t ty : TypeId} {x y z v w : AV} {a : Int} (hs : sizeT P t = some 3) (hv : okCell v = true) (hw : okCell w = true) {off : Nat} (hoff : off = 0) : (AObj.cells [x, y, z] ty).store P t off (.agg [.int .i64 a, v, w]) = some (.cells [.int .i64 a, v, w] ty) := by
  subst hoff
  have h1 : okCell (.int .i64 a) = true := rfl
  simp [AObj.store, hs, AV.cells, h1, hv, hw, AObj.put, overN]
end Go.Proofs.YtgjkfmcjalcefaaGreat
