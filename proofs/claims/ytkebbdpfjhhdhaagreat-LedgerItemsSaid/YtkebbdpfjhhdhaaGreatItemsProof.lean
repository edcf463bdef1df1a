/- LedgerItems returns true at every input, and its arguments read afterwards as they read before. No condition. -/
import Derived.Test.YtkebbdpfjhhdhaaGreatFo
import Derived.Test.YtkebbdpfjhhdhaaGreatF8
import Derived.Test.YtkebbdpfjhhdhaaGreatJf
namespace Go.Proofs.YtkebbdpfjhhdhaaGreat
open Go.ChangeShapes Go.WideShapes Go.ChangeAt Go.RowKit Go.Deep Go.Proofs.YtkebbdpfjhhdhaaGreat.Ev

/-- the law, said of the model -/
theorem ledgerItems_of (w : World) (A0 : Option Addr) (c0 : Nat) (l0 : List Im) (s0 : SlOk w A0 l0.length c0) (hx0 : l0.length ≤ c0) (k0 : At w imC 7 A0 l0) (A1 : Option Addr) (c1 : Nat) (l1 : List Im) (s1 : SlOk w A1 l1.length c1) (hx1 : l1.length ≤ c1) (k1 : At w imC 7 A1 l1) :
    Calls Tryz.prog 3 #[.slice A0 l0.length c0, .slice A1 l1.length c1] w fun e w' => e = .returned (.bool true) ∧ RowKit.Below w.heap.size w w' := by
  obtain ⟨lv0, ⟨hl0, ha0⟩, vl0⟩ := im_abs s0 hx0 k0
  obtain ⟨lv1, ⟨hl1, ha1⟩, vl1⟩ := im_abs s1 hx1 k1
  refine (Con.calls mixed Bs_sound (itemsLaw_con _ (absH_good w) lv0 lv1 l0 l1 hl0 hl1) (VRs.cons vl0 (VRs.cons vl1 (VRs.nil)))).mono ?_
  rintro e w' ⟨U, E, rfl, hU, hb⟩
  simp only [VR] at hU
  exact ⟨by rw [hU], hb⟩
set_option maxRecDepth 100000 in
theorem ledgerItems_lifted (os : Os) (started : os.Started) (H : Type) (enc : TypeId × Value → H) :
    ReturnsInHanded {} Tryz.checked os 3 .any (Rows.ledgerItemsSpec.pre6 enc Tryz.prog Tryz.f3 Rows.ledgerItemsRow.domain false) (Rows.ledgerItemsSpec.post enc Tryz.prog Tryz.f3 false true false false) := by
  refine returnsInHanded_of_change (C := Tryz.checked) Tryz.own started (by kernel_rfl) Tryz.func3
    (ChangeSpec.witness6 (enc := enc) (C := Tryz.checked) false ⟨#[], #[.slice none 0 0, .slice none 0 0], []⟩ 8 (by kernel_rfl) (by kernel_rfl) (by kernel_rfl) (by kernel_rfl)) ?_
  intro W base args ds gs before hval0 hW hcnd _
  have hval : ∀ (j : Nat) t v, Tryz.f3.params[j]? = some t → args[j]? = some v → Value.okWide Tryz.prog W .any base t v := hval0
  have hW' := hW
  obtain ⟨p, q, hA0, hV, rfl, hfz, hnd⟩ := hW
  have hA : DataW.TrodAll enc Tryz.prog W 0 (fun _ => true) true Tryz.f3.params.toList args.toList ds p := hA0
  rw [Tryz.params3] at hA hval
  obtain ⟨v0, vs0, d0, ds0, p0, q0, hargs, rfl, rfl, h0, hr0⟩ := trodAll_cons hA
  obtain ⟨v1, vs1, d1, ds1, p1, q1, rfl, rfl, rfl, h1, hr1⟩ := trodAll_cons hr0
  obtain ⟨rfl, rfl, rfl⟩ := trodAll_nil hr1
  obtain rfl : args = #[v0, v1] := by rw [← Array.toArray_toList (xs := args), hargs]
  obtain ⟨rfl, rfl⟩ := trodVars_none hV
  obtain ⟨A0, c0, l0, rfl, s0, hx0, k0⟩ := open_items (hval 0 22 v0 rfl rfl) h0
  obtain ⟨A1, c1, l1, rfl, s1, hx1, k1⟩ := open_items (hval 1 22 v1 rfl rfl) h1
  clear hA0 hval0
  refine (ledgerItems_of W A0 c0 l0 s0 hx0 k0 A1 c1 l1 s1 hx1 k1).mono fun x W' ⟨he, hb⟩ => ?_
  subst he
  exact ⟨_, rfl, law_post Tryz.laidOut hW' (by decide +kernel) rfl Tryz.underlying4 rfl rfl rfl rfl hb⟩

theorem ledgerItems_f1 : (Rows.ledgerItemsRow.inPlace == Tryz.prog.inPlace 3) = true := by kernel_rfl
theorem ledgerItems_f2 : (Rows.ledgerItemsRow.unfollowed == Tryz.prog.unfollowed 3) = true := by kernel_rfl
theorem ledgerItems_f3 : (Rows.ledgerItemsRow.recurses == Tryz.prog.recurses 3) = true := by kernel_rfl
theorem ledgerItems_f4 : (Rows.ledgerItemsRow.named == Tryz.prog.varsNamed 3) = true := by kernel_rfl
set_option maxRecDepth 100000 in
theorem ledgerItems_jf : joinedFacts Tryz.prog 3 Tryz.f3 Rows.ledgerItemsSpec Rows.ledgerItemsRow = true := by
  simp only [joinedFacts, Bool.and_eq_true]
  repeat' apply And.intro
  · kernel_rfl
  · exact jf_laid
  · exact jf_maps
  · kernel_rfl
  · kernel_rfl
  · kernel_rfl
  · exact jf_stops
  · kernel_rfl
  · exact jf_knobs
  · exact ledgerItems_f1
  · exact ledgerItems_f2
  · exact ledgerItems_f3
  · exact ledgerItems_f4
  · kernel_rfl
  · kernel_rfl
  · kernel_rfl
  · kernel_rfl
  · kernel_rfl
  · kernel_rfl
  · kernel_rfl
  · kernel_rfl
  · kernel_rfl
  · exact jf_keys
  · kernel_rfl
  · exact jf_heard
  · exact jf_enter
  · exact jf_lifts
  · exact jf_make
  · kernel_rfl
  · kernel_rfl
  · kernel_rfl
  · kernel_rfl
theorem ledgerItems_holds : Rows.LedgerItemsSaid :=
  OpenClaim.holds_of_wide 3 Tryz.f3 rfl rfl rfl rfl rfl rfl rfl ⟨rfl, rfl, rfl, rfl, rfl⟩ rfl rfl rfl rfl rfl (by kernel_rfl) Tryz.func3 ledgerItems_jf
    (of_decide_eq_true (by kernel_rfl)) (by unfold Func.isWrapper; first | (rw [if_pos (by decide +kernel)]; kernel_rfl) | (rw [if_neg (by decide +kernel)]; exact ⟨rfl, rfl⟩))
    (fun os started H enc _ => ledgerItems_lifted os started H enc)
#print axioms ledgerItems_holds
end Go.Proofs.YtkebbdpfjhhdhaaGreat
