/- LedgerAsKnown returns true at every input, and its arguments read afterwards as they read before. No condition. -/
import Derived.Test.YtkebbdpfjhhdhaaGreatFo
import Derived.Test.YtkebbdpfjhhdhaaGreatFy
import Derived.Test.YtkebbdpfjhhdhaaGreatJf
namespace Go.Proofs.YtkebbdpfjhhdhaaGreat
open Go.ChangeShapes Go.WideShapes Go.ChangeAt Go.RowKit Go.Deep Go.Proofs.YtkebbdpfjhhdhaaGreat.Ev

/-- the law, said of the model -/
theorem ledgerAsKnown_of (w : World) (A0 : Option Addr) (c0 : Nat) (l0 : List Im) (s0 : SlOk w A0 l0.length c0) (hx0 : l0.length ≤ c0) (k0 : At w imC 7 A0 l0) (t1 : Int) (t2 : Int) (t3 : Int) :
    Calls Tryz.prog 12 #[.slice A0 l0.length c0, .int .i64 t1, .int .i64 t2, .int .i64 t3] w fun e w' => e = .returned (.bool true) ∧ RowKit.Below w.heap.size w w' := by
  obtain ⟨lv0, ⟨hl0, ha0⟩, vl0⟩ := im_abs s0 hx0 k0
  refine (Con.calls mixed Bs_sound (asKnownLaw_con _ (absH_good w) lv0 l0 t1 t2 t3 hl0) (VRs.cons vl0 (VRs.cons vr_int (VRs.cons vr_int (VRs.cons vr_int (VRs.nil)))))).mono ?_
  rintro e w' ⟨U, E, rfl, hU, hb⟩
  simp only [VR] at hU
  exact ⟨by rw [hU], hb⟩
set_option maxRecDepth 100000 in
theorem ledgerAsKnown_lifted (os : Os) (started : os.Started) (H : Type) (enc : TypeId × Value → H) :
    ReturnsInHanded {} Tryz.checked os 12 .any (Rows.ledgerAsKnownSpec.pre6 enc Tryz.prog Tryz.f12 Rows.ledgerAsKnownRow.domain false) (Rows.ledgerAsKnownSpec.post enc Tryz.prog Tryz.f12 false true false false) := by
  refine returnsInHanded_of_change (C := Tryz.checked) Tryz.own started (by kernel_rfl) Tryz.func12
    (ChangeSpec.witness6 (enc := enc) (C := Tryz.checked) false ⟨#[], #[.slice none 0 0, .int .i64 0, .int .i64 0, .int .i64 0], []⟩ 8 (by kernel_rfl) (by kernel_rfl) (by kernel_rfl) (by kernel_rfl)) ?_
  intro W base args ds gs before hval0 hW hcnd _
  have hval : ∀ (j : Nat) t v, Tryz.f12.params[j]? = some t → args[j]? = some v → Value.okWide Tryz.prog W .any base t v := hval0
  have hW' := hW
  obtain ⟨p, q, hA0, hV, rfl, hfz, hnd⟩ := hW
  have hA : DataW.TrodAll enc Tryz.prog W 0 (fun _ => true) true Tryz.f12.params.toList args.toList ds p := hA0
  rw [Tryz.params12] at hA hval
  obtain ⟨v0, vs0, d0, ds0, p0, q0, hargs, rfl, rfl, h0, hr0⟩ := trodAll_cons hA
  obtain ⟨v1, vs1, d1, ds1, p1, q1, rfl, rfl, rfl, h1, hr1⟩ := trodAll_cons hr0
  obtain ⟨v2, vs2, d2, ds2, p2, q2, rfl, rfl, rfl, h2, hr2⟩ := trodAll_cons hr1
  obtain ⟨v3, vs3, d3, ds3, p3, q3, rfl, rfl, rfl, h3, hr3⟩ := trodAll_cons hr2
  obtain ⟨rfl, rfl, rfl⟩ := trodAll_nil hr3
  obtain rfl : args = #[v0, v1, v2, v3] := by rw [← Array.toArray_toList (xs := args), hargs]
  obtain ⟨rfl, rfl⟩ := trodVars_none hV
  obtain ⟨A0, c0, l0, rfl, s0, hx0, k0⟩ := open_items (hval 0 22 v0 rfl rfl) h0
  obtain ⟨t1, rfl, _, _, wf1⟩ := open_int Tryz.underlying3 (hval 1 3 v1 rfl rfl) h1
  obtain ⟨t2, rfl, _, _, wf2⟩ := open_int Tryz.underlying3 (hval 2 3 v2 rfl rfl) h2
  obtain ⟨t3, rfl, _, _, wf3⟩ := open_int Tryz.underlying3 (hval 3 3 v3 rfl rfl) h3
  clear hA0 hval0
  refine (ledgerAsKnown_of W A0 c0 l0 s0 hx0 k0 t1 t2 t3).mono fun x W' ⟨he, hb⟩ => ?_
  subst he
  exact ⟨_, rfl, law_post Tryz.laidOut hW' (by decide +kernel) rfl Tryz.underlying4 rfl rfl rfl rfl hb⟩

theorem ledgerAsKnown_f1 : (Rows.ledgerAsKnownRow.inPlace == Tryz.prog.inPlace 12) = true := by kernel_rfl
theorem ledgerAsKnown_f2 : (Rows.ledgerAsKnownRow.unfollowed == Tryz.prog.unfollowed 12) = true := by kernel_rfl
theorem ledgerAsKnown_f3 : (Rows.ledgerAsKnownRow.recurses == Tryz.prog.recurses 12) = true := by kernel_rfl
theorem ledgerAsKnown_f4 : (Rows.ledgerAsKnownRow.named == Tryz.prog.varsNamed 12) = true := by kernel_rfl
set_option maxRecDepth 100000 in
theorem ledgerAsKnown_jf : joinedFacts Tryz.prog 12 Tryz.f12 Rows.ledgerAsKnownSpec Rows.ledgerAsKnownRow = true := by
  simp only [joinedFacts, Bool.and_eq_true]
  repeat' apply And.intro
  · kernel_rfl
  · exact jf_laid
  · exact jf_maps
  · kernel_rfl
  · kernel_rfl
  · kernel_rfl
  · exact jf_stops
  · kernel_rfl
  · exact jf_knobs
  · exact ledgerAsKnown_f1
  · exact ledgerAsKnown_f2
  · exact ledgerAsKnown_f3
  · exact ledgerAsKnown_f4
  · kernel_rfl
  · kernel_rfl
  · kernel_rfl
  · kernel_rfl
  · kernel_rfl
  · kernel_rfl
  · kernel_rfl
  · kernel_rfl
  · kernel_rfl
  · exact jf_keys
  · kernel_rfl
  · exact jf_heard
  · exact jf_enter
  · exact jf_lifts
  · exact jf_make
  · kernel_rfl
  · kernel_rfl
  · kernel_rfl
  · kernel_rfl
theorem ledgerAsKnown_holds : Rows.LedgerAsKnownSaid :=
  OpenClaim.holds_of_wide 12 Tryz.f12 rfl rfl rfl rfl rfl rfl rfl ⟨rfl, rfl, rfl, rfl, rfl⟩ rfl rfl rfl rfl rfl (by kernel_rfl) Tryz.func12 ledgerAsKnown_jf
    (of_decide_eq_true (by kernel_rfl)) (by unfold Func.isWrapper; first | (rw [if_pos (by decide +kernel)]; kernel_rfl) | (rw [if_neg (by decide +kernel)]; exact ⟨rfl, rfl⟩))
    (fun os started H enc _ => ledgerAsKnown_lifted os started H enc)
#print axioms ledgerAsKnown_holds
end Go.Proofs.YtkebbdpfjhhdhaaGreat
