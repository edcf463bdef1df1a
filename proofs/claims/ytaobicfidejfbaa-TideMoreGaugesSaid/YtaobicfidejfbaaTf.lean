/- Together, the program's and the reference's, over the calculator's memory. -/
import Derived.Test.YtaobicfidejfbaaTe
namespace Go.Proofs.Ytaobicfidejfbaa
open Go.Proofs.Ytaobicfidejfbaa.Ev

theorem store4 {P : Program} {t ty : TypeId} {x y z u a b c w : AV} (hs : sizeT P t = some 4) (ha : okCell a = true) (hb : okCell b = true) (hc : okCell c = true) (hw : okCell w = true) : (AObj.cells [x, y, z, u] ty).store P t 0 (.agg [a, b, c, w]) = some (.cells [a, b, c, w] ty) := by
  simp [AObj.store, hs, AV.cells, ha, hb, hc, hw, AObj.put, overN]
end Go.Proofs.Ytaobicfidejfbaa
