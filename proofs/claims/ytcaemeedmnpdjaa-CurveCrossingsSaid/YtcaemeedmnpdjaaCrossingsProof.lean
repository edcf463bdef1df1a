/- CurveCrossings returns true at every input, and its arguments read afterwards as they read before. No condition. -/
import Derived.Test.YtcaemeedmnpdjaaLawCr
import Derived.Test.YtcaemeedmnpdjaaOpen
namespace Go.Proofs.Ytcaemeedmnpdjaa
open Go.ChangeShapes Go.WideShapes Go.ChangeAt Go.RowKit

set_option maxRecDepth 100000 in
theorem curveCrossings_lifted (os : Os) (started : os.Started) (H : Type) (enc : TypeId × Value → H) :
    ReturnsInHanded {} Try.checked os 12 .any (Rows.curveCrossingsSpec.pre6 enc Try.prog Try.f12 Rows.curveCrossingsRow.domain false) (Rows.curveCrossingsSpec.post enc Try.prog Try.f12 false true false false) := by
  refine returnsInHanded_of_change (C := Try.checked) Try.own started (by kernel_rfl) Try.func12
    (ChangeSpec.witness6 (enc := enc) (C := Try.checked) false ⟨#[], #[.agg #[.slice none 0 0, .int .i64 0], .agg #[.slice none 0 0, .int .i64 0]], []⟩ 8 (by kernel_rfl) (by kernel_rfl) (by kernel_rfl) (by kernel_rfl)) ?_
  intro W base args ds gs before hval0 hW hcnd _
  have hval : ∀ (j : Nat) t v, Try.f12.params[j]? = some t → args[j]? = some v → Value.okWide Try.prog W .any base t v := hval0
  have hW' := hW
  obtain ⟨p, q, hA0, hV, rfl, hfz, hnd⟩ := hW
  have hA : DataW.TrodAll enc Try.prog W 0 (fun _ => true) true Try.f12.params.toList args.toList ds p := hA0
  rw [Try.params12] at hA hval
  obtain ⟨v0, v1, d0, d1, p0, p1, rfl, rfl, rfl, h0, h1⟩ := trodAll_two hA
  obtain ⟨rfl, rfl⟩ := trodVars_none hV
  obtain ⟨A, c, ks, err, rfl, hk, _⟩ := open_curve (hval 0 33 v0 rfl rfl) h0
  have hsl := curve_ok (hval 0 33 _ rfl rfl)
  obtain ⟨A2, c2, kb, eb, rfl, hk2, _⟩ := open_curve (hval 1 33 v1 rfl rfl) h1
  have hsl2 := curve_ok (hval 1 33 _ rfl rfl)
  clear hA0 hval0
  refine (crossings_of W A A2 c c2 ks kb err eb hsl hk hsl2 hk2).mono fun x W' ⟨he, hb⟩ => ?_
  subst he
  exact ⟨_, rfl, law_post Try.laidOut hW' (by decide +kernel) rfl Try.underlying4 rfl rfl rfl rfl hb⟩

theorem curveCrossings_holds : Rows.CurveCrossingsSaid :=
  OpenClaim.holds_of_wide 12 Try.f12 rfl rfl rfl rfl rfl rfl rfl ⟨rfl, rfl, rfl, rfl, rfl⟩ rfl rfl rfl rfl rfl (by kernel_rfl) Try.func12 (by kernel_rfl)
    (of_decide_eq_true (by kernel_rfl)) (by unfold Func.isWrapper; first | (rw [if_pos (by decide +kernel)]; kernel_rfl) | (rw [if_neg (by decide +kernel)]; exact ⟨rfl, rfl⟩))
    (fun os started H enc _ => curveCrossings_lifted os started H enc)
#print axioms curveCrossings_holds
end Go.Proofs.Ytcaemeedmnpdjaa
