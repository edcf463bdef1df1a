/- ArbiterRepeats returns true at every input, and its arguments read afterwards as they read before. No condition. -/
import Derived.Test.YtilpinmbngikgaaOr
import Derived.Test.YtilpinmbngikgaaRp
namespace Go.Proofs.Ytilpinmbngikgaa
open Go.ChangeShapes Go.WideShapes Go.ChangeAt Go.RowKit Go.Deep Go.Proofs.Ytilpinmbngikgaa.Ev

theorem u8_nat {k : Int} (hwf : (decide (IntKind.min .u8 ≤ k) && decide (k ≤ IntKind.max .u8)) = true) : ∃ n : Nat, k = n ∧ n ≤ 255 := by
  have hmn : IntKind.min .u8 = 0 := by decide +kernel
  have hmx : IntKind.max .u8 = 255 := by decide +kernel
  rw [hmn, hmx] at hwf
  have : 0 ≤ k ∧ k ≤ 255 := by simpa using hwf
  exact ⟨k.toNat, by omega, by omega⟩
/-- the law, said of the model -/
theorem arbiterRepeats_of (w : World) (c0 : Int) (A1 : Option Addr) (c1 : Nat) (l1 : List Le) (s1 : SlOk w A1 l1.length c1) (hx1 : l1.length ≤ c1) (k1 : At w leC 8 A1 l1) (n2 : Nat) (hn2 : n2 ≤ 255) (n3 : Nat) (hn3 : n3 ≤ 255) (n4 : Nat) (hn4 : n4 ≤ 255) (t5 : Int) (t6 : Int) :
    Calls Try.prog 8 #[.agg #[.int .i64 c0], .slice A1 l1.length c1, .int .u8 n2, .int .u8 n3, .int .u8 n4, .int .i64 t5, .int .i64 t6] w fun e w' => e = .returned (.bool true) ∧ RowKit.Below w.heap.size w w' := by
  obtain ⟨lv1, hl1, vl1⟩ := elA_abs s1 hx1 k1
  refine (Con.calls mixed Bs_sound (repLaw_con _ (absH_good w) c0 lv1 l1 hl1 n2 n3 n4 hn2 hn3 hn4 t5 t6) (VRs.cons vr_court (VRs.cons vl1 (VRs.cons vr_int (VRs.cons vr_int (VRs.cons vr_int (VRs.cons vr_int (VRs.cons vr_int (VRs.nil))))))))).mono ?_
  rintro e w' ⟨U, E, rfl, hU, hb⟩
  simp only [VR] at hU
  exact ⟨by rw [hU], hb⟩
set_option maxRecDepth 100000 in
theorem arbiterRepeats_lifted (os : Os) (started : os.Started) (H : Type) (enc : TypeId × Value → H) :
    ReturnsInHanded {} Try.checked os 8 .any (Rows.arbiterRepeatsSpec.pre6 enc Try.prog Try.f8 Rows.arbiterRepeatsRow.domain false) (Rows.arbiterRepeatsSpec.post enc Try.prog Try.f8 false true false false) := by
  refine returnsInHanded_of_change (C := Try.checked) Try.own started (by kernel_rfl) Try.func8
    (ChangeSpec.witness6 (enc := enc) (C := Try.checked) false ⟨#[], #[.agg #[.int .i64 0], .slice none 0 0, .int .u8 0, .int .u8 0, .int .u8 0, .int .i64 0, .int .i64 0], []⟩ 8 (by kernel_rfl) (by kernel_rfl) (by kernel_rfl) (by kernel_rfl)) ?_
  intro W base args ds gs before hval0 hW hcnd _
  have hval : ∀ (j : Nat) t v, Try.f8.params[j]? = some t → args[j]? = some v → Value.okWide Try.prog W .any base t v := hval0
  have hW' := hW
  obtain ⟨p, q, hA0, hV, rfl, hfz, hnd⟩ := hW
  have hA : DataW.TrodAll enc Try.prog W 0 (fun _ => true) true Try.f8.params.toList args.toList ds p := hA0
  rw [Try.params8] at hA hval
  obtain ⟨v0, vs0, d0, ds0, p0, q0, hargs, rfl, rfl, h0, hr0⟩ := trodAll_cons hA
  obtain ⟨v1, vs1, d1, ds1, p1, q1, rfl, rfl, rfl, h1, hr1⟩ := trodAll_cons hr0
  obtain ⟨v2, vs2, d2, ds2, p2, q2, rfl, rfl, rfl, h2, hr2⟩ := trodAll_cons hr1
  obtain ⟨v3, vs3, d3, ds3, p3, q3, rfl, rfl, rfl, h3, hr3⟩ := trodAll_cons hr2
  obtain ⟨v4, vs4, d4, ds4, p4, q4, rfl, rfl, rfl, h4, hr4⟩ := trodAll_cons hr3
  obtain ⟨v5, vs5, d5, ds5, p5, q5, rfl, rfl, rfl, h5, hr5⟩ := trodAll_cons hr4
  obtain ⟨v6, vs6, d6, ds6, p6, q6, rfl, rfl, rfl, h6, hr6⟩ := trodAll_cons hr5
  obtain ⟨rfl, rfl, rfl⟩ := trodAll_nil hr6
  obtain rfl : args = #[v0, v1, v2, v3, v4, v5, v6] := by rw [← Array.toArray_toList (xs := args), hargs]
  obtain ⟨rfl, rfl⟩ := trodVars_none hV
  obtain ⟨c0, rfl⟩ := open_court (hval 0 23 v0 rfl rfl) h0
  obtain ⟨A1, c1, l1, rfl, s1, hx1, k1⟩ := open_letters (hval 1 24 v1 rfl rfl) h1
  obtain ⟨z2, rfl, _, _, wf2⟩ := open_int Try.underlying5 (hval 2 5 v2 rfl rfl) h2
  obtain ⟨n2, rfl, hn2⟩ := u8_nat wf2
  obtain ⟨z3, rfl, _, _, wf3⟩ := open_int Try.underlying5 (hval 3 5 v3 rfl rfl) h3
  obtain ⟨n3, rfl, hn3⟩ := u8_nat wf3
  obtain ⟨z4, rfl, _, _, wf4⟩ := open_int Try.underlying5 (hval 4 5 v4 rfl rfl) h4
  obtain ⟨n4, rfl, hn4⟩ := u8_nat wf4
  obtain ⟨t5, rfl, _, _, wf5⟩ := open_int Try.underlying3 (hval 5 3 v5 rfl rfl) h5
  obtain ⟨t6, rfl, _, _, wf6⟩ := open_int Try.underlying3 (hval 6 3 v6 rfl rfl) h6
  clear hA0 hval0
  refine (arbiterRepeats_of W c0 A1 c1 l1 s1 hx1 k1 n2 hn2 n3 hn3 n4 hn4 t5 t6).mono fun x W' ⟨he, hb⟩ => ?_
  subst he
  exact ⟨_, rfl, law_post Try.laidOut hW' (by decide +kernel) rfl Try.underlying4 rfl rfl rfl rfl hb⟩

theorem arbiterRepeats_holds : Rows.ArbiterRepeatsSaid :=
  OpenClaim.holds_of_wide 8 Try.f8 rfl rfl rfl rfl rfl rfl rfl ⟨rfl, rfl, rfl, rfl, rfl⟩ rfl rfl rfl rfl rfl (by kernel_rfl) Try.func8 (by kernel_rfl)
    (of_decide_eq_true (by kernel_rfl)) (by unfold Func.isWrapper; first | (rw [if_pos (by decide +kernel)]; kernel_rfl) | (rw [if_neg (by decide +kernel)]; exact ⟨rfl, rfl⟩))
    (fun os started H enc _ => arbiterRepeats_lifted os started H enc)
#print axioms arbiterRepeats_holds
end Go.Proofs.Ytilpinmbngikgaa
