/- ArbiterRules returns true at every input, and its arguments read afterwards as they read before. No condition. -/
import Derived.Test.YtahmlgiogbnifaaOp
import Derived.Test.YtahmlgiogbnifaaLr
namespace Go.Proofs.Ytahmlgiogbnifaa
open Go.ChangeShapes Go.WideShapes Go.ChangeAt Go.RowKit Go.Deep Go.Proofs.Ytahmlgiogbnifaa.Ev

/-- the law, said of the model -/
theorem arbiterRules_of (w : World) (c0 : Int) (x1 : Le) (x2 : Le) (t3 : Int) (t4 : Int) :
    Calls Try.prog 3 #[.agg #[.int .i64 c0], .agg #[.int .i64 x1.id, .int .i64 x1.cs, .int .i64 x1.kd, .int .i64 x1.rd, .int .i64 x1.fr, .int .i64 x1.to, .int .i64 x1.vo, .int .i64 x1.fi], .agg #[.int .i64 x2.id, .int .i64 x2.cs, .int .i64 x2.kd, .int .i64 x2.rd, .int .i64 x2.fr, .int .i64 x2.to, .int .i64 x2.vo, .int .i64 x2.fi], .int .i64 t3, .int .i64 t4] w fun e w' => e = .returned (.bool true) ∧ RowKit.Below w.heap.size w w' := by
  refine (Con.calls mixed Bs_sound (rules_con _ (absH_good w) c0 t3 t4 x1 x2) (VRs.cons vr_court (VRs.cons vr_letter (VRs.cons vr_letter (VRs.cons vr_int (VRs.cons vr_int (VRs.nil))))))).mono ?_
  rintro e w' ⟨U, E, rfl, hU, hb⟩
  simp only [VR] at hU
  exact ⟨by rw [hU], hb⟩
set_option maxRecDepth 100000 in
theorem arbiterRules_lifted (os : Os) (started : os.Started) (H : Type) (enc : TypeId × Value → H) :
    ReturnsInHanded {} Try.checked os 3 .any (Rows.arbiterRulesSpec.pre6 enc Try.prog Try.f3 Rows.arbiterRulesRow.domain false) (Rows.arbiterRulesSpec.post enc Try.prog Try.f3 false true false false) := by
  refine returnsInHanded_of_change (C := Try.checked) Try.own started (by kernel_rfl) Try.func3
    (ChangeSpec.witness6 (enc := enc) (C := Try.checked) false ⟨#[], #[.agg #[.int .i64 0], .agg #[.int .i64 0, .int .i64 0, .int .i64 0, .int .i64 0, .int .i64 0, .int .i64 0, .int .i64 0, .int .i64 0], .agg #[.int .i64 0, .int .i64 0, .int .i64 0, .int .i64 0, .int .i64 0, .int .i64 0, .int .i64 0, .int .i64 0], .int .i64 0, .int .i64 0], []⟩ 8 (by kernel_rfl) (by kernel_rfl) (by kernel_rfl) (by kernel_rfl)) ?_
  intro W base args ds gs before hval0 hW hcnd _
  have hval : ∀ (j : Nat) t v, Try.f3.params[j]? = some t → args[j]? = some v → Value.okWide Try.prog W .any base t v := hval0
  have hW' := hW
  obtain ⟨p, q, hA0, hV, rfl, hfz, hnd⟩ := hW
  have hA : DataW.TrodAll enc Try.prog W 0 (fun _ => true) true Try.f3.params.toList args.toList ds p := hA0
  rw [Try.params3] at hA hval
  obtain ⟨v0, vs0, d0, ds0, p0, q0, hargs, rfl, rfl, h0, hr0⟩ := trodAll_cons hA
  obtain ⟨v1, vs1, d1, ds1, p1, q1, rfl, rfl, rfl, h1, hr1⟩ := trodAll_cons hr0
  obtain ⟨v2, vs2, d2, ds2, p2, q2, rfl, rfl, rfl, h2, hr2⟩ := trodAll_cons hr1
  obtain ⟨v3, vs3, d3, ds3, p3, q3, rfl, rfl, rfl, h3, hr3⟩ := trodAll_cons hr2
  obtain ⟨v4, vs4, d4, ds4, p4, q4, rfl, rfl, rfl, h4, hr4⟩ := trodAll_cons hr3
  obtain ⟨rfl, rfl, rfl⟩ := trodAll_nil hr4
  obtain rfl : args = #[v0, v1, v2, v3, v4] := by rw [← Array.toArray_toList (xs := args), hargs]
  obtain ⟨rfl, rfl⟩ := trodVars_none hV
  obtain ⟨c0, rfl⟩ := open_court (hval 0 23 v0 rfl rfl) h0
  obtain ⟨x1, rfl⟩ := open_letter (hval 1 25 v1 rfl rfl) h1
  obtain ⟨x2, rfl⟩ := open_letter (hval 2 25 v2 rfl rfl) h2
  obtain ⟨t3, rfl, _, _, wf3⟩ := open_int Try.underlying3 (hval 3 3 v3 rfl rfl) h3
  obtain ⟨t4, rfl, _, _, wf4⟩ := open_int Try.underlying3 (hval 4 3 v4 rfl rfl) h4
  clear hA0 hval0
  refine (arbiterRules_of W c0 x1 x2 t3 t4).mono fun x W' ⟨he, hb⟩ => ?_
  subst he
  exact ⟨_, rfl, law_post Try.laidOut hW' (by decide +kernel) rfl Try.underlying4 rfl rfl rfl rfl hb⟩

theorem arbiterRules_holds : Rows.ArbiterRulesSaid :=
  OpenClaim.holds_of_wide 3 Try.f3 rfl rfl rfl rfl rfl rfl rfl ⟨rfl, rfl, rfl, rfl, rfl⟩ rfl rfl rfl rfl rfl (by kernel_rfl) Try.func3 (by kernel_rfl)
    (of_decide_eq_true (by kernel_rfl)) (by unfold Func.isWrapper; first | (rw [if_pos (by decide +kernel)]; kernel_rfl) | (rw [if_neg (by decide +kernel)]; exact ⟨rfl, rfl⟩))
    (fun os started H enc _ => arbiterRules_lifted os started H enc)
#print axioms arbiterRules_holds
end Go.Proofs.Ytahmlgiogbnifaa
