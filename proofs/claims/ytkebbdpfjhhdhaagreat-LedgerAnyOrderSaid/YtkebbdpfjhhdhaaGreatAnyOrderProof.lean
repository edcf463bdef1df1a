/- LedgerAnyOrder returns true at every input, and its arguments read afterwards as they read before. No condition. -/
import Derived.Test.YtkebbdpfjhhdhaaGreatFo
import Derived.Test.YtkebbdpfjhhdhaaGreatF9
import Derived.Test.YtkebbdpfjhhdhaaGreatJf
namespace Go.Proofs.YtkebbdpfjhhdhaaGreat
open Go.ChangeShapes Go.WideShapes Go.ChangeAt Go.RowKit Go.Deep Go.Proofs.YtkebbdpfjhhdhaaGreat.Ev

theorem u8_nat {k : Int} (hwf : (decide (IntKind.min .u8 ≤ k) && decide (k ≤ IntKind.max .u8)) = true) : ∃ n : Nat, k = n ∧ n ≤ 255 := by
  have hmn : IntKind.min .u8 = 0 := by decide +kernel
  have hmx : IntKind.max .u8 = 255 := by decide +kernel
  rw [hmn, hmx] at hwf
  have : 0 ≤ k ∧ k ≤ 255 := by simpa using hwf
  exact ⟨k.toNat, by omega, by omega⟩
/-- the law, said of the model -/
theorem ledgerAnyOrder_of (w : World) (A0 : Option Addr) (c0 : Nat) (l0 : List Im) (s0 : SlOk w A0 l0.length c0) (hx0 : l0.length ≤ c0) (k0 : At w imC 7 A0 l0) (A1 : Option Addr) (c1 : Nat) (l1 : List Im) (s1 : SlOk w A1 l1.length c1) (hx1 : l1.length ≤ c1) (k1 : At w imC 7 A1 l1) (n2 : Nat) (hn2 : n2 ≤ 255) (n3 : Nat) (hn3 : n3 ≤ 255) (t4 : Int) :
    Calls Tryz.prog 11 #[.slice A0 l0.length c0, .slice A1 l1.length c1, .int .u8 n2, .int .u8 n3, .int .i64 t4] w fun e w' => e = .returned (.bool true) ∧ RowKit.Below w.heap.size w w' := by
  obtain ⟨lv0, ⟨hl0, ha0⟩, vl0⟩ := im_abs s0 hx0 k0
  obtain ⟨lv1, ⟨hl1, ha1⟩, vl1⟩ := im_abs s1 hx1 k1
  refine (Con.calls mixed Bs_sound (anyOrderLaw_con _ (absH_good w) lv0 lv1 l0 l1 n2 n3 t4 hl0 ha0 hl1 hn2 hn3) (VRs.cons vl0 (VRs.cons vl1 (VRs.cons vr_int (VRs.cons vr_int (VRs.cons vr_int (VRs.nil))))))).mono ?_
  rintro e w' ⟨U, E, rfl, hU, hb⟩
  simp only [VR] at hU
  exact ⟨by rw [hU], hb⟩
set_option maxRecDepth 100000 in
theorem ledgerAnyOrder_lifted (os : Os) (started : os.Started) (H : Type) (enc : TypeId × Value → H) :
    ReturnsInHanded {} Tryz.checked os 11 .any (Rows.ledgerAnyOrderSpec.pre6 enc Tryz.prog Tryz.f11 Rows.ledgerAnyOrderRow.domain false) (Rows.ledgerAnyOrderSpec.post enc Tryz.prog Tryz.f11 false true false false) := by
  refine returnsInHanded_of_change (C := Tryz.checked) Tryz.own started (by kernel_rfl) Tryz.func11
    (ChangeSpec.witness6 (enc := enc) (C := Tryz.checked) false ⟨#[], #[.slice none 0 0, .slice none 0 0, .int .u8 0, .int .u8 0, .int .i64 0], []⟩ 8 (by kernel_rfl) (by kernel_rfl) (by kernel_rfl) (by kernel_rfl)) ?_
  intro W base args ds gs before hval0 hW hcnd _
  have hval : ∀ (j : Nat) t v, Tryz.f11.params[j]? = some t → args[j]? = some v → Value.okWide Tryz.prog W .any base t v := hval0
  have hW' := hW
  obtain ⟨p, q, hA0, hV, rfl, hfz, hnd⟩ := hW
  have hA : DataW.TrodAll enc Tryz.prog W 0 (fun _ => true) true Tryz.f11.params.toList args.toList ds p := hA0
  rw [Tryz.params11] at hA hval
  obtain ⟨v0, vs0, d0, ds0, p0, q0, hargs, rfl, rfl, h0, hr0⟩ := trodAll_cons hA
  obtain ⟨v1, vs1, d1, ds1, p1, q1, rfl, rfl, rfl, h1, hr1⟩ := trodAll_cons hr0
  obtain ⟨v2, vs2, d2, ds2, p2, q2, rfl, rfl, rfl, h2, hr2⟩ := trodAll_cons hr1
  obtain ⟨v3, vs3, d3, ds3, p3, q3, rfl, rfl, rfl, h3, hr3⟩ := trodAll_cons hr2
  obtain ⟨v4, vs4, d4, ds4, p4, q4, rfl, rfl, rfl, h4, hr4⟩ := trodAll_cons hr3
  obtain ⟨rfl, rfl, rfl⟩ := trodAll_nil hr4
  obtain rfl : args = #[v0, v1, v2, v3, v4] := by rw [← Array.toArray_toList (xs := args), hargs]
  obtain ⟨rfl, rfl⟩ := trodVars_none hV
  obtain ⟨A0, c0, l0, rfl, s0, hx0, k0⟩ := open_items (hval 0 22 v0 rfl rfl) h0
  obtain ⟨A1, c1, l1, rfl, s1, hx1, k1⟩ := open_items (hval 1 22 v1 rfl rfl) h1
  obtain ⟨z2, rfl, _, _, wf2⟩ := open_int Tryz.underlying5 (hval 2 5 v2 rfl rfl) h2
  obtain ⟨n2, rfl, hn2⟩ := u8_nat wf2
  obtain ⟨z3, rfl, _, _, wf3⟩ := open_int Tryz.underlying5 (hval 3 5 v3 rfl rfl) h3
  obtain ⟨n3, rfl, hn3⟩ := u8_nat wf3
  obtain ⟨t4, rfl, _, _, wf4⟩ := open_int Tryz.underlying3 (hval 4 3 v4 rfl rfl) h4
  clear hA0 hval0
  refine (ledgerAnyOrder_of W A0 c0 l0 s0 hx0 k0 A1 c1 l1 s1 hx1 k1 n2 hn2 n3 hn3 t4).mono fun x W' ⟨he, hb⟩ => ?_
  subst he
  exact ⟨_, rfl, law_post Tryz.laidOut hW' (by decide +kernel) rfl Tryz.underlying4 rfl rfl rfl rfl hb⟩

theorem ledgerAnyOrder_f1 : (Rows.ledgerAnyOrderRow.inPlace == Tryz.prog.inPlace 11) = true := by kernel_rfl
theorem ledgerAnyOrder_f2 : (Rows.ledgerAnyOrderRow.unfollowed == Tryz.prog.unfollowed 11) = true := by kernel_rfl
theorem ledgerAnyOrder_f3 : (Rows.ledgerAnyOrderRow.recurses == Tryz.prog.recurses 11) = true := by kernel_rfl
theorem ledgerAnyOrder_f4 : (Rows.ledgerAnyOrderRow.named == Tryz.prog.varsNamed 11) = true := by kernel_rfl
set_option maxRecDepth 100000 in
theorem ledgerAnyOrder_jf : joinedFacts Tryz.prog 11 Tryz.f11 Rows.ledgerAnyOrderSpec Rows.ledgerAnyOrderRow = true := by
  simp only [joinedFacts, Bool.and_eq_true]
  repeat' apply And.intro
  · kernel_rfl
  · exact jf_laid
  · exact jf_maps
  · kernel_rfl
  · kernel_rfl
  · kernel_rfl
  · exact jf_stops
  · kernel_rfl
  · exact jf_knobs
  · exact ledgerAnyOrder_f1
  · exact ledgerAnyOrder_f2
  · exact ledgerAnyOrder_f3
  · exact ledgerAnyOrder_f4
  · kernel_rfl
  · kernel_rfl
  · kernel_rfl
  · kernel_rfl
  · kernel_rfl
  · kernel_rfl
  · kernel_rfl
  · kernel_rfl
  · kernel_rfl
  · exact jf_keys
  · kernel_rfl
  · exact jf_heard
  · exact jf_enter
  · exact jf_lifts
  · exact jf_make
  · kernel_rfl
  · kernel_rfl
  · kernel_rfl
  · kernel_rfl
theorem ledgerAnyOrder_holds : Rows.LedgerAnyOrderSaid :=
  OpenClaim.holds_of_wide 11 Tryz.f11 rfl rfl rfl rfl rfl rfl rfl ⟨rfl, rfl, rfl, rfl, rfl⟩ rfl rfl rfl rfl rfl (by kernel_rfl) Tryz.func11 ledgerAnyOrder_jf
    (of_decide_eq_true (by kernel_rfl)) (by unfold Func.isWrapper; first | (rw [if_pos (by decide +kernel)]; kernel_rfl) | (rw [if_neg (by decide +kernel)]; exact ⟨rfl, rfl⟩))
    (fun os started H enc _ => ledgerAnyOrder_lifted os started H enc)
#print axioms ledgerAnyOrder_holds
end Go.Proofs.YtkebbdpfjhhdhaaGreat
