/- ArbiterProves returns true at every input, and its arguments read afterwards as they read before. No condition. -/
import Derived.Test.YtilpinmbngikgaaOu
import Derived.Test.YtilpinmbngikgaaVe
namespace Go.Proofs.Ytilpinmbngikgaa
open Go.ChangeShapes Go.WideShapes Go.ChangeAt Go.RowKit Go.Deep Go.Proofs.Ytilpinmbngikgaa.Ev

/-- the law, said of the model -/
theorem arbiterProves_of (w : World) (c0 : Int) (A1 : Option Addr) (c1 : Nat) (l1 : List Le) (s1 : SlOk w A1 l1.length c1) (hx1 : l1.length ≤ c1) (k1 : At w leC 8 A1 l1) (t2 : Int) (A3 : Option Addr) (c3 : Nat) (l3 : List Nat) (s3 : SlOk w A3 l3.length c3) (hx3 : l3.length ≤ c3) (k3 : At w byC 1 A3 l3) (hb3 : ∀ x ∈ l3, x ≤ 255) :
    Calls Try.prog 7 #[.agg #[.int .i64 c0], .slice A1 l1.length c1, .int .i64 t2, .slice A3 l3.length c3] w fun e w' => e = .returned (.bool true) ∧ RowKit.Below w.heap.size w w' := by
  obtain ⟨lv1, hl1, vl1⟩ := elA_abs s1 hx1 k1
  obtain ⟨lv3, hl3, vl3⟩ := elA_abs s3 hx3 k3
  refine (Con.calls mixed Bs_sound (provesLaw_con _ (absH_good w) c0 lv1 l1 t2 lv3 l3 hl1 hl3 hb3) (VRs.cons vr_court (VRs.cons vl1 (VRs.cons vr_int (VRs.cons vl3 (VRs.nil)))))).mono ?_
  rintro e w' ⟨U, E, rfl, hU, hb⟩
  simp only [VR] at hU
  exact ⟨by rw [hU], hb⟩
set_option maxRecDepth 100000 in
theorem arbiterProves_lifted (os : Os) (started : os.Started) (H : Type) (enc : TypeId × Value → H) :
    ReturnsInHanded {} Try.checked os 7 .any (Rows.arbiterProvesSpec.pre6 enc Try.prog Try.f7 Rows.arbiterProvesRow.domain false) (Rows.arbiterProvesSpec.post enc Try.prog Try.f7 false true false false) := by
  refine returnsInHanded_of_change (C := Try.checked) Try.own started (by kernel_rfl) Try.func7
    (ChangeSpec.witness6 (enc := enc) (C := Try.checked) false ⟨#[], #[.agg #[.int .i64 0], .slice none 0 0, .int .i64 0, .slice none 0 0], []⟩ 8 (by kernel_rfl) (by kernel_rfl) (by kernel_rfl) (by kernel_rfl)) ?_
  intro W base args ds gs before hval0 hW hcnd _
  have hval : ∀ (j : Nat) t v, Try.f7.params[j]? = some t → args[j]? = some v → Value.okWide Try.prog W .any base t v := hval0
  have hW' := hW
  obtain ⟨p, q, hA0, hV, rfl, hfz, hnd⟩ := hW
  have hA : DataW.TrodAll enc Try.prog W 0 (fun _ => true) true Try.f7.params.toList args.toList ds p := hA0
  rw [Try.params7] at hA hval
  obtain ⟨v0, vs0, d0, ds0, p0, q0, hargs, rfl, rfl, h0, hr0⟩ := trodAll_cons hA
  obtain ⟨v1, vs1, d1, ds1, p1, q1, rfl, rfl, rfl, h1, hr1⟩ := trodAll_cons hr0
  obtain ⟨v2, vs2, d2, ds2, p2, q2, rfl, rfl, rfl, h2, hr2⟩ := trodAll_cons hr1
  obtain ⟨v3, vs3, d3, ds3, p3, q3, rfl, rfl, rfl, h3, hr3⟩ := trodAll_cons hr2
  obtain ⟨rfl, rfl, rfl⟩ := trodAll_nil hr3
  obtain rfl : args = #[v0, v1, v2, v3] := by rw [← Array.toArray_toList (xs := args), hargs]
  obtain ⟨rfl, rfl⟩ := trodVars_none hV
  obtain ⟨c0, rfl⟩ := open_court (hval 0 23 v0 rfl rfl) h0
  obtain ⟨A1, c1, l1, rfl, s1, hx1, k1⟩ := open_letters (hval 1 24 v1 rfl rfl) h1
  obtain ⟨t2, rfl, _, _, wf2⟩ := open_int Try.underlying3 (hval 2 3 v2 rfl rfl) h2
  obtain ⟨A3, c3, l3, rfl, s3, hx3, k3, hb3⟩ := open_bytes (hval 3 45 v3 rfl rfl) h3
  clear hA0 hval0
  refine (arbiterProves_of W c0 A1 c1 l1 s1 hx1 k1 t2 A3 c3 l3 s3 hx3 k3 hb3).mono fun x W' ⟨he, hb⟩ => ?_
  subst he
  exact ⟨_, rfl, law_post Try.laidOut hW' (by decide +kernel) rfl Try.underlying4 rfl rfl rfl rfl hb⟩

theorem arbiterProves_holds : Rows.ArbiterProvesSaid :=
  OpenClaim.holds_of_wide 7 Try.f7 rfl rfl rfl rfl rfl rfl rfl ⟨rfl, rfl, rfl, rfl, rfl⟩ rfl rfl rfl rfl rfl (by kernel_rfl) Try.func7 (by kernel_rfl)
    (of_decide_eq_true (by kernel_rfl)) (by unfold Func.isWrapper; first | (rw [if_pos (by decide +kernel)]; kernel_rfl) | (rw [if_neg (by decide +kernel)]; exact ⟨rfl, rfl⟩))
    (fun os started H enc _ => arbiterProves_lifted os started H enc)
#print axioms arbiterProves_holds
end Go.Proofs.Ytilpinmbngikgaa
