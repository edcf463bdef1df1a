/- ArbiterBound returns true at every input, and its arguments read afterwards as they read before. No condition. -/
import Derived.Test.YtilpinmbngikgaaOr
import Derived.Test.YtilpinmbngikgaaBn
namespace Go.Proofs.Ytilpinmbngikgaa
open Go.ChangeShapes Go.WideShapes Go.ChangeAt Go.RowKit Go.Deep Go.Proofs.Ytilpinmbngikgaa.Ev

/-- the law, said of the model -/
theorem arbiterBound_of (w : World) (c0 : Int) (A1 : Option Addr) (c1 : Nat) (l1 : List Le) (s1 : SlOk w A1 l1.length c1) (hx1 : l1.length ≤ c1) (k1 : At w leC 8 A1 l1) :
    Calls Try.prog 6 #[.agg #[.int .i64 c0], .slice A1 l1.length c1] w fun e w' => e = .returned (.bool true) ∧ RowKit.Below w.heap.size w w' := by
  obtain ⟨lv1, hl1, vl1⟩ := elA_abs s1 hx1 k1
  refine (Con.calls mixed Bs_sound (boundLaw_con _ (absH_good w) c0 lv1 l1 hl1) (VRs.cons vr_court (VRs.cons vl1 (VRs.nil)))).mono ?_
  rintro e w' ⟨U, E, rfl, hU, hb⟩
  simp only [VR] at hU
  exact ⟨by rw [hU], hb⟩
set_option maxRecDepth 100000 in
theorem arbiterBound_lifted (os : Os) (started : os.Started) (H : Type) (enc : TypeId × Value → H) :
    ReturnsInHanded {} Try.checked os 6 .any (Rows.arbiterBoundSpec.pre6 enc Try.prog Try.f6 Rows.arbiterBoundRow.domain false) (Rows.arbiterBoundSpec.post enc Try.prog Try.f6 false true false false) := by
  refine returnsInHanded_of_change (C := Try.checked) Try.own started (by kernel_rfl) Try.func6
    (ChangeSpec.witness6 (enc := enc) (C := Try.checked) false ⟨#[], #[.agg #[.int .i64 0], .slice none 0 0], []⟩ 8 (by kernel_rfl) (by kernel_rfl) (by kernel_rfl) (by kernel_rfl)) ?_
  intro W base args ds gs before hval0 hW hcnd _
  have hval : ∀ (j : Nat) t v, Try.f6.params[j]? = some t → args[j]? = some v → Value.okWide Try.prog W .any base t v := hval0
  have hW' := hW
  obtain ⟨p, q, hA0, hV, rfl, hfz, hnd⟩ := hW
  have hA : DataW.TrodAll enc Try.prog W 0 (fun _ => true) true Try.f6.params.toList args.toList ds p := hA0
  rw [Try.params6] at hA hval
  obtain ⟨v0, vs0, d0, ds0, p0, q0, hargs, rfl, rfl, h0, hr0⟩ := trodAll_cons hA
  obtain ⟨v1, vs1, d1, ds1, p1, q1, rfl, rfl, rfl, h1, hr1⟩ := trodAll_cons hr0
  obtain ⟨rfl, rfl, rfl⟩ := trodAll_nil hr1
  obtain rfl : args = #[v0, v1] := by rw [← Array.toArray_toList (xs := args), hargs]
  obtain ⟨rfl, rfl⟩ := trodVars_none hV
  obtain ⟨c0, rfl⟩ := open_court (hval 0 23 v0 rfl rfl) h0
  obtain ⟨A1, c1, l1, rfl, s1, hx1, k1⟩ := open_letters (hval 1 24 v1 rfl rfl) h1
  clear hA0 hval0
  refine (arbiterBound_of W c0 A1 c1 l1 s1 hx1 k1).mono fun x W' ⟨he, hb⟩ => ?_
  subst he
  exact ⟨_, rfl, law_post Try.laidOut hW' (by decide +kernel) rfl Try.underlying4 rfl rfl rfl rfl hb⟩

theorem arbiterBound_holds : Rows.ArbiterBoundSaid :=
  OpenClaim.holds_of_wide 6 Try.f6 rfl rfl rfl rfl rfl rfl rfl ⟨rfl, rfl, rfl, rfl, rfl⟩ rfl rfl rfl rfl rfl (by kernel_rfl) Try.func6 (by kernel_rfl)
    (of_decide_eq_true (by kernel_rfl)) (by unfold Func.isWrapper; first | (rw [if_pos (by decide +kernel)]; kernel_rfl) | (rw [if_neg (by decide +kernel)]; exact ⟨rfl, rfl⟩))
    (fun os started H enc _ => arbiterBound_lifted os started H enc)
#print axioms arbiterBound_holds
end Go.Proofs.Ytilpinmbngikgaa
