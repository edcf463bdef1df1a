/- FlowChecks returns true at every input, and its arguments read afterwards as they read before. No condition. -/
import Derived.Test.YtkgolbanbdmbkaaOp
namespace Go.Proofs.Ytkgolbanbdmbkaa
open Go.ChangeShapes Go.WideShapes Go.ChangeAt Go.RowKit Go.Deep Go.Proofs.Ytkgolbanbdmbkaa.Ev

/-- the law, said of the model -/
theorem flowChecks_of (w : World) (A0a A0b : Option Addr) (c0a c0b : Nat) (l0 : List Ho) (m0 : List Mv) (s0a : SlOk w A0a l0.length c0a) (s0b : SlOk w A0b m0.length c0b) (x0a : l0.length ≤ c0a) (x0b : m0.length ≤ c0b) (k0a : At w hoC 6 A0a l0) (k0b : At w mvC 5 A0b m0) (A1 : Option Addr) (c1 : Nat) (xs1 : List Int) (s1 : SlOk w A1 xs1.length c1) (hx1 : xs1.length ≤ c1) (k1 : At w inC 1 A1 xs1) :
    Calls Try.prog 3 #[.agg #[.slice A0a l0.length c0a, .slice A0b m0.length c0b], .slice A1 xs1.length c1] w fun e w' => e = .returned (.bool true) ∧ RowKit.Below w.heap.size w w' := by
  obtain ⟨hv0, hh0, vh0⟩ := ho_abs s0a x0a k0a
  obtain ⟨mv0, hm0, vm0⟩ := elA_abs s0b x0b k0b
  obtain ⟨iv1, hi1, vi1⟩ := elA_abs s1 hx1 k1
  refine (Con.calls mixed Bs_sound (checks_con _ (absH_good w) hv0 mv0 iv1 l0 m0 xs1 hh0 hm0 hi1.eV) (VRs.cons (vr_agg2 vh0 vm0) (VRs.cons vi1 (VRs.nil)))).mono ?_
  rintro e w' ⟨U, E, rfl, hU, hb⟩
  simp only [VR] at hU
  exact ⟨by rw [hU], hb⟩
set_option maxRecDepth 100000 in
theorem flowChecks_lifted (os : Os) (started : os.Started) (H : Type) (enc : TypeId × Value → H) :
    ReturnsInHanded {} Try.checked os 3 .any (Rows.flowChecksSpec.pre6 enc Try.prog Try.f3 Rows.flowChecksRow.domain false) (Rows.flowChecksSpec.post enc Try.prog Try.f3 false true false false) := by
  refine returnsInHanded_of_change (C := Try.checked) Try.own started (by kernel_rfl) Try.func3
    (ChangeSpec.witness6 (enc := enc) (C := Try.checked) false ⟨#[], #[.agg #[.slice none 0 0, .slice none 0 0], .slice none 0 0], []⟩ 8 (by kernel_rfl) (by kernel_rfl) (by kernel_rfl) (by kernel_rfl)) ?_
  intro W base args ds gs before hval0 hW hcnd _
  have hval : ∀ (j : Nat) t v, Try.f3.params[j]? = some t → args[j]? = some v → Value.okWide Try.prog W .any base t v := hval0
  have hW' := hW
  obtain ⟨p, q, hA0, hV, rfl, hfz, hnd⟩ := hW
  have hA : DataW.TrodAll enc Try.prog W 0 (fun _ => true) true Try.f3.params.toList args.toList ds p := hA0
  rw [Try.params3] at hA hval
  obtain ⟨v0, vs0, d0, ds0, p0, q0, hargs, rfl, rfl, h0, hr0⟩ := trodAll_cons hA
  obtain ⟨v1, vs1, d1, ds1, p1, q1, rfl, rfl, rfl, h1, hr1⟩ := trodAll_cons hr0
  obtain ⟨rfl, rfl, rfl⟩ := trodAll_nil hr1
  obtain rfl : args = #[v0, v1] := by rw [← Array.toArray_toList (xs := args), hargs]
  obtain ⟨rfl, rfl⟩ := trodVars_none hV
  obtain ⟨A0a, A0b, c0a, c0b, l0, m0, rfl, s0a, s0b, x0a, x0b, k0a, k0b⟩ := open_trade (hval 0 25 v0 rfl rfl) h0
  obtain ⟨A1, c1, xs1, rfl, s1, hx1, k1⟩ := open_intsP (hval 1 26 v1 rfl rfl) h1
  clear hA0 hval0
  refine (flowChecks_of W A0a A0b c0a c0b l0 m0 s0a s0b x0a x0b k0a k0b A1 c1 xs1 s1 hx1 k1).mono fun x W' ⟨he, hb⟩ => ?_
  subst he
  exact ⟨_, rfl, law_post Try.laidOut hW' (by decide +kernel) rfl Try.underlying4 rfl rfl rfl rfl hb⟩

theorem flowChecks_holds : Rows.FlowChecksSaid :=
  OpenClaim.holds_of_wide 3 Try.f3 rfl rfl rfl rfl rfl rfl rfl ⟨rfl, rfl, rfl, rfl, rfl⟩ rfl rfl rfl rfl rfl (by kernel_rfl) Try.func3 (by kernel_rfl)
    (of_decide_eq_true (by kernel_rfl)) (by unfold Func.isWrapper; first | (rw [if_pos (by decide +kernel)]; kernel_rfl) | (rw [if_neg (by decide +kernel)]; exact ⟨rfl, rfl⟩))
    (fun os started H enc _ => flowChecks_lifted os started H enc)
#print axioms flowChecks_holds
end Go.Proofs.Ytkgolbanbdmbkaa
