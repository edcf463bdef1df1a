/- An argument that is a span: what it reads as. -/
import Derived.Test.YtgjkfmcjalcefaaGreatOpw
import Derived.Lib.SmallJoins
namespace Go.Proofs.YtgjkfmcjalcefaaGreat
open Go.ChangeShapes Go.WideShapes Go.ChangeAt Go.RowKit Go.Deep Go.Proofs.YtgjkfmcjalcefaaGreat.Ev

theorem vr_agg2 {E : Env} {a b : AV} {x y : Value} (h1 : VR E a x) (h2 : VR E b y) : VR E (.agg [a, b]) (.agg #[x, y]) := by
  simp only [VR]
  exact ⟨[x, y], rfl, VRs.cons h1 (VRs.cons h2 VRs.nil)⟩
section
variable {H : Type} {enc : TypeId × Value → H} {W : World} {base b0 : Nat} {spare : Nat → Bool} {held : Bool} {r : Reach}
set_option maxRecDepth 100000 in
theorem open_span {v : Value} {d : DataW H} {p : List MemPlace} (hv : Value.okWide Tryz.prog W r b0 30 v) (h : DataW.Trod enc Tryz.prog W base spare held 30 v d p) :
    ∃ lo hi : Int, v = .agg #[.int .i64 lo, .int .i64 hi] := by
  obtain ⟨v0, v1, y0, y1, k, rfl, _, _, h0, h1⟩ := Joins.open_agg2 Tryz.underlying30 (by kernel_rfl) (by kernel_rfl) hv h
  obtain ⟨n, e0, _⟩ := DataW.trod_int Tryz.underlying3 h0
  obtain ⟨m, e1, _⟩ := DataW.trod_int Tryz.underlying3 h1
  simp only [List.cons.injEq, and_true] at e0 e1
  subst e0 e1
  exact ⟨n, m, rfl⟩
end
theorem u16_nat {k : Int} (hwf : (decide (IntKind.min .u16 ≤ k) && decide (k ≤ IntKind.max .u16)) = true) : ∃ n : Nat, k = n ∧ n ≤ 65535 := by
  have hmn : IntKind.min .u16 = 0 := by decide +kernel
  have hmx : IntKind.max .u16 = 65535 := by decide +kernel
  rw [hmn, hmx] at hwf
  have : 0 ≤ k ∧ k ≤ 65535 := by simpa using hwf
  exact ⟨k.toNat, by omega, by omega⟩
end Go.Proofs.YtgjkfmcjalcefaaGreat
