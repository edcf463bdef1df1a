/- ArbiterChecks returns true at every input, and its arguments read afterwards as they read before. No condition. -/
import Derived.Test.YtilpinmbngikgaaOr
import Derived.Test.YtilpinmbngikgaaVh
namespace Go.Proofs.Ytilpinmbngikgaa
open Go.ChangeShapes Go.WideShapes Go.ChangeAt Go.RowKit Go.Deep Go.Proofs.Ytilpinmbngikgaa.Ev

theorem u8_nat {k : Int} (hwf : (decide (IntKind.min .u8 ≤ k) && decide (k ≤ IntKind.max .u8)) = true) : ∃ n : Nat, k = n ∧ n ≤ 255 := by
  have hmn : IntKind.min .u8 = 0 := by decide +kernel
  have hmx : IntKind.max .u8 = 255 := by decide +kernel
  rw [hmn, hmx] at hwf
  have : 0 ≤ k ∧ k ≤ 255 := by simpa using hwf
  exact ⟨k.toNat, by omega, by omega⟩
/-- the law, said of the model -/
theorem arbiterChecks_of (w : World) (c0 : Int) (A1 : Option Addr) (c1 : Nat) (l1 : List Le) (s1 : SlOk w A1 l1.length c1) (hx1 : l1.length ≤ c1) (k1 : At w leC 8 A1 l1) (t2 : Int) (t3 : Int) (n4 : Nat) (hn4 : n4 ≤ 255) (t5 : Int) :
    Calls Try.prog 4 #[.agg #[.int .i64 c0], .slice A1 l1.length c1, .int .i64 t2, .int .i64 t3, .int .u8 n4, .int .i64 t5] w fun e w' => e = .returned (.bool true) ∧ RowKit.Below w.heap.size w w' := by
  obtain ⟨lv1, hl1, vl1⟩ := elA_abs s1 hx1 k1
  refine (Con.calls mixed Bs_sound (checksLaw_con _ (absH_good w) c0 lv1 l1 t2 t3 n4 hn4 t5 hl1) (VRs.cons vr_court (VRs.cons vl1 (VRs.cons vr_int (VRs.cons vr_int (VRs.cons vr_int (VRs.cons vr_int (VRs.nil)))))))).mono ?_
  rintro e w' ⟨U, E, rfl, hU, hb⟩
  simp only [VR] at hU
  exact ⟨by rw [hU], hb⟩
set_option maxRecDepth 100000 in
theorem arbiterChecks_lifted (os : Os) (started : os.Started) (H : Type) (enc : TypeId × Value → H) :
    ReturnsInHanded {} Try.checked os 4 .any (Rows.arbiterChecksSpec.pre6 enc Try.prog Try.f4 Rows.arbiterChecksRow.domain false) (Rows.arbiterChecksSpec.post enc Try.prog Try.f4 false true false false) := by
  refine returnsInHanded_of_change (C := Try.checked) Try.own started (by kernel_rfl) Try.func4
    (ChangeSpec.witness6 (enc := enc) (C := Try.checked) false ⟨#[], #[.agg #[.int .i64 0], .slice none 0 0, .int .i64 0, .int .i64 0, .int .u8 0, .int .i64 0], []⟩ 8 (by kernel_rfl) (by kernel_rfl) (by kernel_rfl) (by kernel_rfl)) ?_
  intro W base args ds gs before hval0 hW hcnd _
  have hval : ∀ (j : Nat) t v, Try.f4.params[j]? = some t → args[j]? = some v → Value.okWide Try.prog W .any base t v := hval0
  have hW' := hW
  obtain ⟨p, q, hA0, hV, rfl, hfz, hnd⟩ := hW
  have hA : DataW.TrodAll enc Try.prog W 0 (fun _ => true) true Try.f4.params.toList args.toList ds p := hA0
  rw [Try.params4] at hA hval
  obtain ⟨v0, vs0, d0, ds0, p0, q0, hargs, rfl, rfl, h0, hr0⟩ := trodAll_cons hA
  obtain ⟨v1, vs1, d1, ds1, p1, q1, rfl, rfl, rfl, h1, hr1⟩ := trodAll_cons hr0
  obtain ⟨v2, vs2, d2, ds2, p2, q2, rfl, rfl, rfl, h2, hr2⟩ := trodAll_cons hr1
  obtain ⟨v3, vs3, d3, ds3, p3, q3, rfl, rfl, rfl, h3, hr3⟩ := trodAll_cons hr2
  obtain ⟨v4, vs4, d4, ds4, p4, q4, rfl, rfl, rfl, h4, hr4⟩ := trodAll_cons hr3
  obtain ⟨v5, vs5, d5, ds5, p5, q5, rfl, rfl, rfl, h5, hr5⟩ := trodAll_cons hr4
  obtain ⟨rfl, rfl, rfl⟩ := trodAll_nil hr5
  obtain rfl : args = #[v0, v1, v2, v3, v4, v5] := by rw [← Array.toArray_toList (xs := args), hargs]
  obtain ⟨rfl, rfl⟩ := trodVars_none hV
  obtain ⟨c0, rfl⟩ := open_court (hval 0 23 v0 rfl rfl) h0
  obtain ⟨A1, c1, l1, rfl, s1, hx1, k1⟩ := open_letters (hval 1 24 v1 rfl rfl) h1
  obtain ⟨t2, rfl, _, _, wf2⟩ := open_int Try.underlying3 (hval 2 3 v2 rfl rfl) h2
  obtain ⟨t3, rfl, _, _, wf3⟩ := open_int Try.underlying3 (hval 3 3 v3 rfl rfl) h3
  obtain ⟨z4, rfl, _, _, wf4⟩ := open_int Try.underlying5 (hval 4 5 v4 rfl rfl) h4
  obtain ⟨n4, rfl, hn4⟩ := u8_nat wf4
  obtain ⟨t5, rfl, _, _, wf5⟩ := open_int Try.underlying3 (hval 5 3 v5 rfl rfl) h5
  clear hA0 hval0
  refine (arbiterChecks_of W c0 A1 c1 l1 s1 hx1 k1 t2 t3 n4 hn4 t5).mono fun x W' ⟨he, hb⟩ => ?_
  subst he
  exact ⟨_, rfl, law_post Try.laidOut hW' (by decide +kernel) rfl Try.underlying4 rfl rfl rfl rfl hb⟩

theorem arbiterChecks_holds : Rows.ArbiterChecksSaid :=
  OpenClaim.holds_of_wide 4 Try.f4 rfl rfl rfl rfl rfl rfl rfl ⟨rfl, rfl, rfl, rfl, rfl⟩ rfl rfl rfl rfl rfl (by kernel_rfl) Try.func4 (by kernel_rfl)
    (of_decide_eq_true (by kernel_rfl)) (by unfold Func.isWrapper; first | (rw [if_pos (by decide +kernel)]; kernel_rfl) | (rw [if_neg (by decide +kernel)]; exact ⟨rfl, rfl⟩))
    (fun os started H enc _ => arbiterChecks_lifted os started H enc)
#print axioms arbiterChecks_holds
end Go.Proofs.Ytilpinmbngikgaa
