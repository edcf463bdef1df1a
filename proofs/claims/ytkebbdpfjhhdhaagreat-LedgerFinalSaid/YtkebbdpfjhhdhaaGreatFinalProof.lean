/- LedgerFinal returns true at every input, and its arguments read afterwards as they read before. No condition. -/
import Derived.Test.YtkebbdpfjhhdhaaGreatFo
import Derived.Test.YtkebbdpfjhhdhaaGreatF4
import Derived.Test.YtkebbdpfjhhdhaaGreatJf
namespace Go.Proofs.YtkebbdpfjhhdhaaGreat
open Go.ChangeShapes Go.WideShapes Go.ChangeAt Go.RowKit Go.Deep Go.Proofs.YtkebbdpfjhhdhaaGreat.Ev

/-- the law, said of the model -/
theorem ledgerFinal_of (w : World) (A0 : Option Addr) (c0 : Nat) (l0 : List Im) (s0 : SlOk w A0 l0.length c0) (hx0 : l0.length ≤ c0) (k0 : At w imC 7 A0 l0) (t1 : Int) (t2 : Int) :
    Calls Tryz.prog 13 #[.slice A0 l0.length c0, .int .i64 t1, .int .i64 t2] w fun e w' => e = .returned (.bool true) ∧ RowKit.Below w.heap.size w w' := by
  obtain ⟨lv0, ⟨hl0, ha0⟩, vl0⟩ := im_abs s0 hx0 k0
  refine (Con.calls mixed Bs_sound (finalLaw_con _ (absH_good w) lv0 l0 t1 t2 hl0) (VRs.cons vl0 (VRs.cons vr_int (VRs.cons vr_int (VRs.nil))))).mono ?_
  rintro e w' ⟨U, E, rfl, hU, hb⟩
  simp only [VR] at hU
  exact ⟨by rw [hU], hb⟩
set_option maxRecDepth 100000 in
theorem ledgerFinal_lifted (os : Os) (started : os.Started) (H : Type) (enc : TypeId × Value → H) :
    ReturnsInHanded {} Tryz.checked os 13 .any (Rows.ledgerFinalSpec.pre6 enc Tryz.prog Tryz.f13 Rows.ledgerFinalRow.domain false) (Rows.ledgerFinalSpec.post enc Tryz.prog Tryz.f13 false true false false) := by
  refine returnsInHanded_of_change (C := Tryz.checked) Tryz.own started (by kernel_rfl) Tryz.func13
    (ChangeSpec.witness6 (enc := enc) (C := Tryz.checked) false ⟨#[], #[.slice none 0 0, .int .i64 0, .int .i64 0], []⟩ 8 (by kernel_rfl) (by kernel_rfl) (by kernel_rfl) (by kernel_rfl)) ?_
  intro W base args ds gs before hval0 hW hcnd _
  have hval : ∀ (j : Nat) t v, Tryz.f13.params[j]? = some t → args[j]? = some v → Value.okWide Tryz.prog W .any base t v := hval0
  have hW' := hW
  obtain ⟨p, q, hA0, hV, rfl, hfz, hnd⟩ := hW
  have hA : DataW.TrodAll enc Tryz.prog W 0 (fun _ => true) true Tryz.f13.params.toList args.toList ds p := hA0
  rw [Tryz.params13] at hA hval
  obtain ⟨v0, vs0, d0, ds0, p0, q0, hargs, rfl, rfl, h0, hr0⟩ := trodAll_cons hA
  obtain ⟨v1, vs1, d1, ds1, p1, q1, rfl, rfl, rfl, h1, hr1⟩ := trodAll_cons hr0
  obtain ⟨v2, vs2, d2, ds2, p2, q2, rfl, rfl, rfl, h2, hr2⟩ := trodAll_cons hr1
  obtain ⟨rfl, rfl, rfl⟩ := trodAll_nil hr2
  obtain rfl : args = #[v0, v1, v2] := by rw [← Array.toArray_toList (xs := args), hargs]
  obtain ⟨rfl, rfl⟩ := trodVars_none hV
  obtain ⟨A0, c0, l0, rfl, s0, hx0, k0⟩ := open_items (hval 0 22 v0 rfl rfl) h0
  obtain ⟨t1, rfl, _, _, wf1⟩ := open_int Tryz.underlying3 (hval 1 3 v1 rfl rfl) h1
  obtain ⟨t2, rfl, _, _, wf2⟩ := open_int Tryz.underlying3 (hval 2 3 v2 rfl rfl) h2
  clear hA0 hval0
  refine (ledgerFinal_of W A0 c0 l0 s0 hx0 k0 t1 t2).mono fun x W' ⟨he, hb⟩ => ?_
  subst he
  exact ⟨_, rfl, law_post Tryz.laidOut hW' (by decide +kernel) rfl Tryz.underlying4 rfl rfl rfl rfl hb⟩

theorem ledgerFinal_f1 : (Rows.ledgerFinalRow.inPlace == Tryz.prog.inPlace 13) = true := by kernel_rfl
theorem ledgerFinal_f2 : (Rows.ledgerFinalRow.unfollowed == Tryz.prog.unfollowed 13) = true := by kernel_rfl
theorem ledgerFinal_f3 : (Rows.ledgerFinalRow.recurses == Tryz.prog.recurses 13) = true := by kernel_rfl
theorem ledgerFinal_f4 : (Rows.ledgerFinalRow.named == Tryz.prog.varsNamed 13) = true := by kernel_rfl
set_option maxRecDepth 100000 in
theorem ledgerFinal_jf : joinedFacts Tryz.prog 13 Tryz.f13 Rows.ledgerFinalSpec Rows.ledgerFinalRow = true := by
  simp only [joinedFacts, Bool.and_eq_true]
  repeat' apply And.intro
  · kernel_rfl
  · exact jf_laid
  · exact jf_maps
  · kernel_rfl
  · kernel_rfl
  · kernel_rfl
  · exact jf_stops
  · kernel_rfl
  · exact jf_knobs
  · exact ledgerFinal_f1
  · exact ledgerFinal_f2
  · exact ledgerFinal_f3
  · exact ledgerFinal_f4
  · kernel_rfl
  · kernel_rfl
  · kernel_rfl
  · kernel_rfl
  · kernel_rfl
  · kernel_rfl
  · kernel_rfl
  · kernel_rfl
  · kernel_rfl
  · exact jf_keys
  · kernel_rfl
  · exact jf_heard
  · exact jf_enter
  · exact jf_lifts
  · exact jf_make
  · kernel_rfl
  · kernel_rfl
  · kernel_rfl
  · kernel_rfl
theorem ledgerFinal_holds : Rows.LedgerFinalSaid :=
  OpenClaim.holds_of_wide 13 Tryz.f13 rfl rfl rfl rfl rfl rfl rfl ⟨rfl, rfl, rfl, rfl, rfl⟩ rfl rfl rfl rfl rfl (by kernel_rfl) Tryz.func13 ledgerFinal_jf
    (of_decide_eq_true (by kernel_rfl)) (by unfold Func.isWrapper; first | (rw [if_pos (by decide +kernel)]; kernel_rfl) | (rw [if_neg (by decide +kernel)]; exact ⟨rfl, rfl⟩))
    (fun os started H enc _ => ledgerFinal_lifted os started H enc)
#print axioms ledgerFinal_holds
end Go.Proofs.YtkebbdpfjhhdhaaGreat
