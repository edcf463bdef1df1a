/- FlowJudges returns true at every input, and its arguments read afterwards as they read before. No condition. -/
import Derived.Test.YtjlpoomjgidgaaaOq
namespace Go.Proofs.Ytjlpoomjgidgaaa
open Go.ChangeShapes Go.WideShapes Go.ChangeAt Go.RowKit Go.Deep Go.Proofs.Ytjlpoomjgidgaaa.Ev

/-- the law, said of the model -/
theorem flowJudges_of (w : World) (A0a A0b : Option Addr) (c0a c0b : Nat) (l0 : List Ho) (m0 : List Mv) (s0a : SlOk w A0a l0.length c0a) (s0b : SlOk w A0b m0.length c0b) (x0a : l0.length ≤ c0a) (x0b : m0.length ≤ c0b) (k0a : At w hoC 6 A0a l0) (k0b : At w mvC 5 A0b m0) (A1a A1b A1c : Option Addr) (c1a c1b c1c : Nat) (s1 e1 x1 : List Int) (s1a : SlOk w A1a s1.length c1a) (s1b : SlOk w A1b e1.length c1b) (s1c : SlOk w A1c x1.length c1c) (x1a : s1.length ≤ c1a) (x1b : e1.length ≤ c1b) (x1c : x1.length ≤ c1c) (k1a : At w inC 1 A1a s1) (k1b : At w inC 1 A1b e1) (k1c : At w inC 1 A1c x1) (way2 : Int) (A2 : Option Addr) (c2 : Nat) (xs2 : List Int) (s2 : SlOk w A2 xs2.length c2) (hx2 : xs2.length ≤ c2) (k2 : At w inC 1 A2 xs2) :
    Calls Try.prog 3 #[.agg #[.slice A0a l0.length c0a, .slice A0b m0.length c0b], .agg #[.slice A1a s1.length c1a, .slice A1b e1.length c1b, .slice A1c x1.length c1c], .agg #[.int .i64 way2, .slice A2 xs2.length c2]] w fun e w' => e = .returned (.bool true) ∧ RowKit.Below w.heap.size w w' := by
  obtain ⟨hv0, hh0, vh0⟩ := ho_abs s0a x0a k0a
  obtain ⟨mv0, hm0, vm0⟩ := elA_abs s0b x0b k0b
  obtain ⟨sv1, hs1, vs1⟩ := inZ_abs s1a x1a k1a
  obtain ⟨ev1, he1, ve1⟩ := inZ_abs s1b x1b k1b
  obtain ⟨xv1, hx1, vx1⟩ := inZ_abs s1c x1c k1c
  obtain ⟨iv2, hi2, vi2⟩ := elA_abs s2 hx2 k2
  refine (Con.calls mixed Bs_sound (judges_con _ (absH_good w) hv0 mv0 sv1 ev1 xv1 iv2 way2 l0 m0 s1 e1 x1 xs2 hh0.hoA hm0 hs1 he1 hx1 hi2.eV) (VRs.cons (vr_agg2 vh0 vm0) (VRs.cons (vr_agg3 vs1 ve1 vx1) (VRs.cons (vr_agg2 vr_int vi2) (VRs.nil))))).mono ?_
  rintro e w' ⟨U, E, rfl, hU, hb⟩
  simp only [VR] at hU
  exact ⟨by rw [hU], hb⟩
set_option maxRecDepth 100000 in
theorem flowJudges_lifted (os : Os) (started : os.Started) (H : Type) (enc : TypeId × Value → H) :
    ReturnsInHanded {} Try.checked os 3 .any (Rows.flowJudgesSpec.pre6 enc Try.prog Try.f3 Rows.flowJudgesRow.domain false) (Rows.flowJudgesSpec.post enc Try.prog Try.f3 false true false false) := by
  refine returnsInHanded_of_change (C := Try.checked) Try.own started (by kernel_rfl) Try.func3
    (ChangeSpec.witness6 (enc := enc) (C := Try.checked) false ⟨#[], #[.agg #[.slice none 0 0, .slice none 0 0], .agg #[.slice none 0 0, .slice none 0 0, .slice none 0 0], .agg #[.int .i64 0, .slice none 0 0]], []⟩ 8 (by kernel_rfl) (by kernel_rfl) (by kernel_rfl) (by kernel_rfl)) ?_
  intro W base args ds gs before hval0 hW hcnd _
  have hval : ∀ (j : Nat) t v, Try.f3.params[j]? = some t → args[j]? = some v → Value.okWide Try.prog W .any base t v := hval0
  have hW' := hW
  obtain ⟨p, q, hA0, hV, rfl, hfz, hnd⟩ := hW
  have hA : DataW.TrodAll enc Try.prog W 0 (fun _ => true) true Try.f3.params.toList args.toList ds p := hA0
  rw [Try.params3] at hA hval
  obtain ⟨v0, vs0, d0, ds0, p0, q0, hargs, rfl, rfl, h0, hr0⟩ := trodAll_cons hA
  obtain ⟨v1, vs1, d1, ds1, p1, q1, rfl, rfl, rfl, h1, hr1⟩ := trodAll_cons hr0
  obtain ⟨v2, vs2, d2, ds2, p2, q2, rfl, rfl, rfl, h2, hr2⟩ := trodAll_cons hr1
  obtain ⟨rfl, rfl, rfl⟩ := trodAll_nil hr2
  obtain rfl : args = #[v0, v1, v2] := by rw [← Array.toArray_toList (xs := args), hargs]
  obtain ⟨rfl, rfl⟩ := trodVars_none hV
  obtain ⟨A0a, A0b, c0a, c0b, l0, m0, rfl, s0a, s0b, x0a, x0b, k0a, k0b⟩ := open_trade (hval 0 25 v0 rfl rfl) h0
  obtain ⟨A1a, A1b, A1c, c1a, c1b, c1c, s1, e1, x1, rfl, s1a, s1b, s1c, x1a, x1b, x1c, k1a, k1b, k1c⟩ := open_course (hval 1 28 v1 rfl rfl) h1
  obtain ⟨way2, A2, c2, xs2, rfl, s2, hx2, k2⟩ := open_cut (hval 2 30 v2 rfl rfl) h2
  clear hA0 hval0
  refine (flowJudges_of W A0a A0b c0a c0b l0 m0 s0a s0b x0a x0b k0a k0b A1a A1b A1c c1a c1b c1c s1 e1 x1 s1a s1b s1c x1a x1b x1c k1a k1b k1c way2 A2 c2 xs2 s2 hx2 k2).mono fun x W' ⟨he, hb⟩ => ?_
  subst he
  exact ⟨_, rfl, law_post Try.laidOut hW' (by decide +kernel) rfl Try.underlying4 rfl rfl rfl rfl hb⟩

theorem flowJudges_holds : Rows.FlowJudgesSaid :=
  OpenClaim.holds_of_wide 3 Try.f3 rfl rfl rfl rfl rfl rfl rfl ⟨rfl, rfl, rfl, rfl, rfl⟩ rfl rfl rfl rfl rfl (by kernel_rfl) Try.func3 (by kernel_rfl)
    (of_decide_eq_true (by kernel_rfl)) (by unfold Func.isWrapper; first | (rw [if_pos (by decide +kernel)]; kernel_rfl) | (rw [if_neg (by decide +kernel)]; exact ⟨rfl, rfl⟩))
    (fun os started H enc _ => flowJudges_lifted os started H enc)
#print axioms flowJudges_holds
end Go.Proofs.Ytjlpoomjgidgaaa
