/- ArbiterTells returns true at every input, and its arguments read afterwards as they read before. No condition. -/
import Derived.Test.YtilpinmbngikgaaGreatOr
import Derived.Test.YtilpinmbngikgaaGreatZf
namespace Go.Proofs.YtilpinmbngikgaaGreat
open Go.ChangeShapes Go.WideShapes Go.ChangeAt Go.RowKit Go.Deep Go.Proofs.YtilpinmbngikgaaGreat.Ev

/-- the law, said of the model -/
theorem arbiterTells_of (w : World) (c0 : Int) (A1 : Option Addr) (c1 : Nat) (l1 : List Le) (s1 : SlOk w A1 l1.length c1) (hx1 : l1.length ≤ c1) (k1 : At w leC 8 A1 l1) (t2 : Int) (t3 : Int) (t4 : Int) :
    Calls Tryz.prog 3 #[.agg #[.int .i64 c0], .slice A1 l1.length c1, .int .i64 t2, .int .i64 t3, .int .i64 t4] w fun e w' => e = .returned (.bool true) ∧ RowKit.Below w.heap.size w w' := by
  obtain ⟨lv1, hl1, vl1⟩ := elA_abs s1 hx1 k1
  refine (Con.calls mixed Bs_sound (tellsLaw_con _ (absH_good w) c0 lv1 l1 t2 t3 t4 hl1) (VRs.cons vr_court (VRs.cons vl1 (VRs.cons vr_int (VRs.cons vr_int (VRs.cons vr_int (VRs.nil))))))).mono ?_
  rintro e w' ⟨U, E, rfl, hU, hb⟩
  simp only [VR] at hU
  exact ⟨by rw [hU], hb⟩
set_option maxRecDepth 100000 in
theorem arbiterTells_lifted (os : Os) (started : os.Started) (H : Type) (enc : TypeId × Value → H) :
    ReturnsInHanded {} Tryz.checked os 3 .any (Rows.arbiterTellsSpec.pre6 enc Tryz.prog Tryz.f3 Rows.arbiterTellsRow.domain false) (Rows.arbiterTellsSpec.post enc Tryz.prog Tryz.f3 false true false false) := by
  refine returnsInHanded_of_change (C := Tryz.checked) Tryz.own started (by kernel_rfl) Tryz.func3
    (ChangeSpec.witness6 (enc := enc) (C := Tryz.checked) false ⟨#[], #[.agg #[.int .i64 0], .slice none 0 0, .int .i64 0, .int .i64 0, .int .i64 0], []⟩ 8 (by kernel_rfl) (by kernel_rfl) (by kernel_rfl) (by kernel_rfl)) ?_
  intro W base args ds gs before hval0 hW hcnd _
  have hval : ∀ (j : Nat) t v, Tryz.f3.params[j]? = some t → args[j]? = some v → Value.okWide Tryz.prog W .any base t v := hval0
  have hW' := hW
  obtain ⟨p, q, hA0, hV, rfl, hfz, hnd⟩ := hW
  have hA : DataW.TrodAll enc Tryz.prog W 0 (fun _ => true) true Tryz.f3.params.toList args.toList ds p := hA0
  rw [Tryz.params3] at hA hval
  obtain ⟨v0, vs0, d0, ds0, p0, q0, hargs, rfl, rfl, h0, hr0⟩ := trodAll_cons hA
  obtain ⟨v1, vs1, d1, ds1, p1, q1, rfl, rfl, rfl, h1, hr1⟩ := trodAll_cons hr0
  obtain ⟨v2, vs2, d2, ds2, p2, q2, rfl, rfl, rfl, h2, hr2⟩ := trodAll_cons hr1
  obtain ⟨v3, vs3, d3, ds3, p3, q3, rfl, rfl, rfl, h3, hr3⟩ := trodAll_cons hr2
  obtain ⟨v4, vs4, d4, ds4, p4, q4, rfl, rfl, rfl, h4, hr4⟩ := trodAll_cons hr3
  obtain ⟨rfl, rfl, rfl⟩ := trodAll_nil hr4
  obtain rfl : args = #[v0, v1, v2, v3, v4] := by rw [← Array.toArray_toList (xs := args), hargs]
  obtain ⟨rfl, rfl⟩ := trodVars_none hV
  obtain ⟨c0, rfl⟩ := open_court (hval 0 23 v0 rfl rfl) h0
  obtain ⟨A1, c1, l1, rfl, s1, hx1, k1⟩ := open_letters (hval 1 24 v1 rfl rfl) h1
  obtain ⟨t2, rfl, _, _, wf2⟩ := open_int Tryz.underlying3 (hval 2 3 v2 rfl rfl) h2
  obtain ⟨t3, rfl, _, _, wf3⟩ := open_int Tryz.underlying3 (hval 3 3 v3 rfl rfl) h3
  obtain ⟨t4, rfl, _, _, wf4⟩ := open_int Tryz.underlying3 (hval 4 3 v4 rfl rfl) h4
  clear hA0 hval0
  refine (arbiterTells_of W c0 A1 c1 l1 s1 hx1 k1 t2 t3 t4).mono fun x W' ⟨he, hb⟩ => ?_
  subst he
  exact ⟨_, rfl, law_post Tryz.laidOut hW' (by decide +kernel) rfl Tryz.underlying4 rfl rfl rfl rfl hb⟩

theorem arbiterTells_holds : Rows.ArbiterTellsSaid :=
  OpenClaim.holds_of_wide 3 Tryz.f3 rfl rfl rfl rfl rfl rfl rfl ⟨rfl, rfl, rfl, rfl, rfl⟩ rfl rfl rfl rfl rfl (by kernel_rfl) Tryz.func3 (by kernel_rfl)
    (of_decide_eq_true (by kernel_rfl)) (by unfold Func.isWrapper; first | (rw [if_pos (by decide +kernel)]; kernel_rfl) | (rw [if_neg (by decide +kernel)]; exact ⟨rfl, rfl⟩))
    (fun os started H enc _ => arbiterTells_lifted os started H enc)
#print axioms arbiterTells_holds
end Go.Proofs.YtilpinmbngikgaaGreat
