/- CurveTruth returns true at every input, and its arguments read afterwards as they read before. No condition. -/
import Derived.Test.YtcaemeedmnpdjaaLawT
import Derived.Test.YtcaemeedmnpdjaaOpen
namespace Go.Proofs.Ytcaemeedmnpdjaa
open Go.ChangeShapes Go.WideShapes Go.ChangeAt Go.RowKit

set_option maxRecDepth 100000 in
theorem slice_of_cells {W : World} {r : Reach} {b0 : Nat} {t e : TypeId} {v : Value} {A : Option Addr} {n c : Nat} (ht : Try.prog.underlying t = some (.slice e)) (h : Cell.okWide Try.prog W r b0 t v) (e0 : v.cells.toList = [.slice A n c]) : v = .slice A n c := by
  unfold Cell.okWide at h
  rw [ht] at h
  simp only at h
  unfold Cell.ok at h
  rw [ht] at h
  cases v <;> first | (simp [Value.cells] at e0; done) | skip
  all_goals first | (simpa [Value.cells] using e0) | (simp at h; done)
set_option maxRecDepth 100000 in
theorem curveTruth_lifted (os : Os) (started : os.Started) (H : Type) (enc : TypeId × Value → H) :
    ReturnsInHanded {} Try.checked os 13 .any (Rows.curveTruthSpec.pre6 enc Try.prog Try.f13 Rows.curveTruthRow.domain false) (Rows.curveTruthSpec.post enc Try.prog Try.f13 false true false false) := by
  refine returnsInHanded_of_change (C := Try.checked) Try.own started (by kernel_rfl) Try.func13
    (ChangeSpec.witness6 (enc := enc) (C := Try.checked) false ⟨#[], #[.slice none 0 0, .int .i64 0, .int .i64 0], []⟩ 8 (by kernel_rfl) (by kernel_rfl) (by kernel_rfl) (by kernel_rfl)) ?_
  intro W base args ds gs before hval0 hW hcnd _
  have hval : ∀ (j : Nat) t v, Try.f13.params[j]? = some t → args[j]? = some v → Value.okWide Try.prog W .any base t v := hval0
  have hW' := hW
  obtain ⟨p, q, hA0, hV, rfl, hfz, hnd⟩ := hW
  have hA : DataW.TrodAll enc Try.prog W 0 (fun _ => true) true Try.f13.params.toList args.toList ds p := hA0
  rw [Try.params13] at hA hval
  obtain ⟨v0, vs0, d0, ds0, p0, q0, hargs, rfl, rfl, h0, hr0⟩ := trodAll_cons hA
  obtain ⟨v1, vs1, d1, ds1, p1, q1, rfl, rfl, rfl, h1, hr1⟩ := trodAll_cons hr0
  obtain ⟨v2, vs2, d2, ds2, p2, q2, rfl, rfl, rfl, h2, hr2⟩ := trodAll_cons hr1
  obtain ⟨rfl, rfl, rfl⟩ := trodAll_nil hr2
  obtain rfl : args = #[v0, v1, v2] := by rw [← Array.toArray_toList (xs := args), hargs]
  obtain ⟨rfl, rfl⟩ := trodVars_none hV
  obtain ⟨n0, h0'⟩ := h0
  obtain ⟨A, c, l, e0, hll, hk⟩ := open_curves (fun _ => rfl) h0'
  have hv0 := cell_ok Try.underlying66 (hval 0 66 v0 rfl rfl)
  obtain rfl := slice_of_cells Try.underlying66 hv0 e0
  have hsl := slOk_of Try.underlying66 hv0
  have hlc := slLen_of Try.underlying66 hv0
  obtain ⟨x, rfl, _, _, _⟩ := open_int Try.underlying3 (hval 1 3 v1 rfl rfl) h1
  obtain ⟨sh, rfl, _, _, _⟩ := open_int Try.underlying3 (hval 2 3 v2 rfl rfl) h2
  clear hA0 hval0
  refine (truth_of W A c l x sh hsl hlc (Nat.le_trans hll (Nat.le_of_eq (show maxLen = 9223372036854775807 from rfl))) hk).mono fun x W' ⟨he, hb⟩ => ?_
  subst he
  exact ⟨_, rfl, law_post Try.laidOut hW' (by decide +kernel) rfl Try.underlying4 rfl rfl rfl rfl hb⟩

theorem curveTruth_holds : Rows.CurveTruthSaid :=
  OpenClaim.holds_of_wide 13 Try.f13 rfl rfl rfl rfl rfl rfl rfl ⟨rfl, rfl, rfl, rfl, rfl⟩ rfl rfl rfl rfl rfl (by kernel_rfl) Try.func13 (by kernel_rfl)
    (of_decide_eq_true (by kernel_rfl)) (by unfold Func.isWrapper; first | (rw [if_pos (by decide +kernel)]; kernel_rfl) | (rw [if_neg (by decide +kernel)]; exact ⟨rfl, rfl⟩))
    (fun os started H enc _ => curveTruth_lifted os started H enc)
#print axioms curveTruth_holds
end Go.Proofs.Ytcaemeedmnpdjaa
