/- TideProofsHold returns true at every input, and its arguments read afterwards as they read before. No condition. -/
import Derived.Test.YtekpffjcffeanaaYf
import Derived.Test.YtekpffjcffeanaaOi
import Derived.Test.YtekpffjcffeanaaOps
namespace Go.Proofs.Ytekpffjcffeanaa
open Go.ChangeShapes Go.WideShapes Go.ChangeAt Go.RowKit Go.Deep Go.Proofs.Ytekpffjcffeanaa.Ev

/-- the law, said of the model -/
theorem tideProofsHold_of (w : World) (A0a A0b : Option Addr) (c0a c0b : Nat) (lv0 : Int) (l0 : List Cw) (ss0 : List Sh) (s0a : SlOk w A0a l0.length c0a) (s0b : SlOk w A0b ss0.length c0b) (hl0 : l0.length ≤ 9223372036854775807) (k0a : l0 ≠ [] → ∃ b off, A0a = some ⟨b, off, none⟩ ∧ b < w.heap.size ∧ CyH (absH w) b off l0) (k0b : ss0 ≠ [] → ∃ b off, A0b = some ⟨b, off, none⟩ ∧ b < w.heap.size ∧ ShH (absH w) b off ss0) (lo1 hi1 : Int) (n2 : Nat) (hn2 : n2 ≤ 65535) (t3 : Int) (A4 : Option Addr) (c4 : Nat) (xs4 : List Int) (s4 : SlOk w A4 xs4.length c4) (hx4 : xs4.length ≤ c4) (k4 : ItAt w A4 xs4) :
    Calls Try.prog 6 #[.agg #[.int .i64 lv0, .slice A0a l0.length c0a, .slice A0b ss0.length c0b], .agg #[.int .i64 lo1, .int .i64 hi1], .int .u16 n2, .int .i64 t3, .slice A4 xs4.length c4] w fun e w' => e = .returned (.bool true) ∧ RowKit.Below w.heap.size w w' := by
  obtain ⟨cv0, hc0, vc0⟩ := cy_abs s0a k0a
  obtain ⟨sv0, hs0, vs0⟩ := sh_abs s0b k0b
  obtain ⟨xv4, hv4, vx4⟩ := it_abs s4 hx4 k4
  refine (Con.calls mixed Bs_sound (proofsHold_con _ (absH_good w) lv0 lo1 hi1 t3 n2 hn2 cv0 sv0 xv4 l0 ss0 xs4 hc0 hs0 hl0 hv4.itV) (VRs.cons (vr_agg3 vr_int vc0 vs0) (VRs.cons (vr_agg2 vr_int vr_int) (VRs.cons vr_int (VRs.cons vr_int (VRs.cons vx4 (VRs.nil))))))).mono ?_
  rintro e w' ⟨U, E, rfl, hU, hb⟩
  simp only [VR] at hU
  exact ⟨by rw [hU], hb⟩
set_option maxRecDepth 100000 in
theorem tideProofsHold_lifted (os : Os) (started : os.Started) (H : Type) (enc : TypeId × Value → H) :
    ReturnsInHanded {} Try.checked os 6 .any (Rows.tideProofsHoldSpec.pre6 enc Try.prog Try.f6 Rows.tideProofsHoldRow.domain false) (Rows.tideProofsHoldSpec.post enc Try.prog Try.f6 false true false false) := by
  refine returnsInHanded_of_change (C := Try.checked) Try.own started (by kernel_rfl) Try.func6
    (ChangeSpec.witness6 (enc := enc) (C := Try.checked) false ⟨#[], #[.agg #[.int .i64 0, .slice none 0 0, .slice none 0 0], .agg #[.int .i64 0, .int .i64 0], .int .u16 0, .int .i64 0, .slice none 0 0], []⟩ 8 (by kernel_rfl) (by kernel_rfl) (by kernel_rfl) (by kernel_rfl)) ?_
  intro W base args ds gs before hval0 hW hcnd _
  have hval : ∀ (j : Nat) t v, Try.f6.params[j]? = some t → args[j]? = some v → Value.okWide Try.prog W .any base t v := hval0
  have hW' := hW
  obtain ⟨p, q, hA0, hV, rfl, hfz, hnd⟩ := hW
  have hA : DataW.TrodAll enc Try.prog W 0 (fun _ => true) true Try.f6.params.toList args.toList ds p := hA0
  rw [Try.params6] at hA hval
  obtain ⟨v0, vs0, d0, ds0, p0, q0, hargs, rfl, rfl, h0, hr0⟩ := trodAll_cons hA
  obtain ⟨v1, vs1, d1, ds1, p1, q1, rfl, rfl, rfl, h1, hr1⟩ := trodAll_cons hr0
  obtain ⟨v2, vs2, d2, ds2, p2, q2, rfl, rfl, rfl, h2, hr2⟩ := trodAll_cons hr1
  obtain ⟨v3, vs3, d3, ds3, p3, q3, rfl, rfl, rfl, h3, hr3⟩ := trodAll_cons hr2
  obtain ⟨v4, vs4, d4, ds4, p4, q4, rfl, rfl, rfl, h4, hr4⟩ := trodAll_cons hr3
  obtain ⟨rfl, rfl, rfl⟩ := trodAll_nil hr4
  obtain rfl : args = #[v0, v1, v2, v3, v4] := by rw [← Array.toArray_toList (xs := args), hargs]
  obtain ⟨rfl, rfl⟩ := trodVars_none hV
  obtain ⟨lv0, A0a, A0b, c0a, c0b, l0, ss0, rfl, s0a, s0b, hl0, k0a, k0b⟩ := open_water (fun _ => rfl) (hval 0 25 v0 rfl rfl) h0
  obtain ⟨lo1, hi1, rfl⟩ := open_span (hval 1 37 v1 rfl rfl) h1
  obtain ⟨z2, rfl, _, _, wf2⟩ := open_int Try.underlying38 (hval 2 38 v2 rfl rfl) h2
  obtain ⟨n2, rfl, hn2⟩ := u16_nat wf2
  obtain ⟨t3, rfl, _, _, wf3⟩ := open_int Try.underlying3 (hval 3 3 v3 rfl rfl) h3
  obtain ⟨A4, c4, xs4, rfl, hx4, k4, s4⟩ := open_intsP (hval 4 26 v4 rfl rfl) h4
  clear hA0 hval0
  refine (tideProofsHold_of W A0a A0b c0a c0b lv0 l0 ss0 s0a s0b (Nat.le_trans hl0 (Nat.le_of_eq (show maxLen = 9223372036854775807 from rfl))) k0a k0b lo1 hi1 n2 hn2 t3 A4 c4 xs4 s4 hx4 k4).mono fun x W' ⟨he, hb⟩ => ?_
  subst he
  exact ⟨_, rfl, law_post Try.laidOut hW' (by decide +kernel) rfl Try.underlying4 rfl rfl rfl rfl hb⟩

theorem tideProofsHold_holds : Rows.TideProofsHoldSaid :=
  OpenClaim.holds_of_wide 6 Try.f6 rfl rfl rfl rfl rfl rfl rfl ⟨rfl, rfl, rfl, rfl, rfl⟩ rfl rfl rfl rfl rfl (by kernel_rfl) Try.func6 (by kernel_rfl)
    (of_decide_eq_true (by kernel_rfl)) (by unfold Func.isWrapper; first | (rw [if_pos (by decide +kernel)]; kernel_rfl) | (rw [if_neg (by decide +kernel)]; exact ⟨rfl, rfl⟩))
    (fun os started H enc _ => tideProofsHold_lifted os started H enc)
#print axioms tideProofsHold_holds
end Go.Proofs.Ytekpffjcffeanaa
