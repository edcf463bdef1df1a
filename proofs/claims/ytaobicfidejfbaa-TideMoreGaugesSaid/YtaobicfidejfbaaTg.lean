/- The reference's Together over the calculator's memory. -/
import Derived.Test.YtaobicfidejfbaaTf
namespace Go.Proofs.Ytaobicfidejfbaa
open Go.Proofs.Ytaobicfidejfbaa.Ev

theorem store5 {P : Program} {t ty : TypeId} {x y z u o w : AV} {a b c e : Int} (hs : sizeT P t = some 5) (hw : okCell w = true) {off : Nat} (hoff : off = 0) : (AObj.cells [x, y, z, u, o] ty).store P t off (.agg [.int .i64 a, .int .i64 b, .int .i64 c, w, .int .i64 e]) = some (.cells [.int .i64 a, .int .i64 b, .int .i64 c, w, .int .i64 e] ty) := by
  subst hoff
  have h1 : okCell (.int .i64 a) = true := rfl
  have h2 : okCell (.int .i64 b) = true := rfl
  have h3 : okCell (.int .i64 c) = true := rfl
  have h4 : okCell (.int .i64 e) = true := rfl
  simp [AObj.store, hs, AV.cells, h1, h2, h3, h4, hw, AObj.put, overN]
end Go.Proofs.Ytaobicfidejfbaa
