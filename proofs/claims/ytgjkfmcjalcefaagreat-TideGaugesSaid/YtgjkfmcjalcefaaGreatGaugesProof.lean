/- TideGauges returns true at every input, and its arguments read afterwards as they read before. No condition. -/
import Derived.Test.YtgjkfmcjalcefaaGreatJk
import Derived.Test.YtgjkfmcjalcefaaGreatOg
import Derived.Test.YtgjkfmcjalcefaaGreatOps
import Derived.Test.YtgjkfmcjalcefaaGreatOga
namespace Go.Proofs.YtgjkfmcjalcefaaGreat
open Go.ChangeShapes Go.WideShapes Go.ChangeAt Go.RowKit Go.Deep Go.Proofs.YtgjkfmcjalcefaaGreat.Ev

/-- the law, said of the model -/
theorem tideGauges_of (w : World) (A0a A0b : Option Addr) (c0a c0b : Nat) (lv0 : Int) (l0 : List Cw) (ss0 : List Sh) (s0a : SlOk w A0a l0.length c0a) (s0b : SlOk w A0b ss0.length c0b) (hl0 : l0.length ≤ 9223372036854775807) (k0a : l0 ≠ [] → ∃ b off, A0a = some ⟨b, off, none⟩ ∧ b < w.heap.size ∧ CyH (absH w) b off l0) (k0b : ss0 ≠ [] → ∃ b off, A0b = some ⟨b, off, none⟩ ∧ b < w.heap.size ∧ ShH (absH w) b off ss0) (A1 : Option Addr) (c1 : Nat) (l1 : List Ga) (s1 : SlOk w A1 l1.length c1) (hx1 : l1.length ≤ c1) (k1 : l1 ≠ [] → ∃ b off, A1 = some ⟨b, off, none⟩ ∧ b < w.heap.size ∧ GaH (absH w) b off l1) :
    Calls Tryz.prog 3 #[.agg #[.int .i64 lv0, .slice A0a l0.length c0a, .slice A0b ss0.length c0b], .slice A1 l1.length c1] w fun e w' => e = .returned (.bool true) ∧ RowKit.Below w.heap.size w w' := by
  obtain ⟨cv0, hc0, vc0⟩ := cy_abs s0a k0a
  obtain ⟨sv0, hs0, vs0⟩ := sh_abs s0b k0b
  obtain ⟨gv1, hg1, vg1⟩ := ga_absA s1 hx1 k1
  refine (Con.calls mixed Bs_sound (gauges_con _ (absH_good w) lv0 cv0 sv0 gv1 l0 ss0 l1 hc0 hs0 hg1 hl0) (VRs.cons (vr_agg3 vr_int vc0 vs0) (VRs.cons vg1 (VRs.nil)))).mono ?_
  rintro e w' ⟨U, E, rfl, hU, hb⟩
  simp only [VR] at hU
  exact ⟨by rw [hU], hb⟩
set_option maxRecDepth 100000 in
theorem tideGauges_lifted (os : Os) (started : os.Started) (H : Type) (enc : TypeId × Value → H) :
    ReturnsInHanded {} Tryz.checked os 3 .any (Rows.tideGaugesSpec.pre6 enc Tryz.prog Tryz.f3 Rows.tideGaugesRow.domain false) (Rows.tideGaugesSpec.post enc Tryz.prog Tryz.f3 false true false false) := by
  refine returnsInHanded_of_change (C := Tryz.checked) Tryz.own started (by kernel_rfl) Tryz.func3
    (ChangeSpec.witness6 (enc := enc) (C := Tryz.checked) false ⟨#[], #[.agg #[.int .i64 0, .slice none 0 0, .slice none 0 0], .slice none 0 0], []⟩ 8 (by kernel_rfl) (by kernel_rfl) (by kernel_rfl) (by kernel_rfl)) ?_
  intro W base args ds gs before hval0 hW hcnd _
  have hval : ∀ (j : Nat) t v, Tryz.f3.params[j]? = some t → args[j]? = some v → Value.okWide Tryz.prog W .any base t v := hval0
  have hW' := hW
  obtain ⟨p, q, hA0, hV, rfl, hfz, hnd⟩ := hW
  have hA : DataW.TrodAll enc Tryz.prog W 0 (fun _ => true) true Tryz.f3.params.toList args.toList ds p := hA0
  rw [Tryz.params3] at hA hval
  obtain ⟨v0, vs0, d0, ds0, p0, q0, hargs, rfl, rfl, h0, hr0⟩ := trodAll_cons hA
  obtain ⟨v1, vs1, d1, ds1, p1, q1, rfl, rfl, rfl, h1, hr1⟩ := trodAll_cons hr0
  obtain ⟨rfl, rfl, rfl⟩ := trodAll_nil hr1
  obtain rfl : args = #[v0, v1] := by rw [← Array.toArray_toList (xs := args), hargs]
  obtain ⟨rfl, rfl⟩ := trodVars_none hV
  obtain ⟨lv0, A0a, A0b, c0a, c0b, l0, ss0, rfl, s0a, s0b, hl0, k0a, k0b⟩ := open_water (fun _ => rfl) (hval 0 25 v0 rfl rfl) h0
  obtain ⟨A1, c1, l1, rfl, s1, hx1, k1⟩ := open_gaugesA (hval 1 26 v1 rfl rfl) h1
  clear hA0 hval0
  refine (tideGauges_of W A0a A0b c0a c0b lv0 l0 ss0 s0a s0b (Nat.le_trans hl0 (Nat.le_of_eq (show maxLen = 9223372036854775807 from rfl))) k0a k0b A1 c1 l1 s1 hx1 k1).mono fun x W' ⟨he, hb⟩ => ?_
  subst he
  exact ⟨_, rfl, law_post Tryz.laidOut hW' (by decide +kernel) rfl Tryz.underlying4 rfl rfl rfl rfl hb⟩

theorem tideGauges_holds : Rows.TideGaugesSaid :=
  OpenClaim.holds_of_wide 3 Tryz.f3 rfl rfl rfl rfl rfl rfl rfl ⟨rfl, rfl, rfl, rfl, rfl⟩ rfl rfl rfl rfl rfl (by kernel_rfl) Tryz.func3 (by kernel_rfl)
    (of_decide_eq_true (by kernel_rfl)) (by unfold Func.isWrapper; first | (rw [if_pos (by decide +kernel)]; kernel_rfl) | (rw [if_neg (by decide +kernel)]; exact ⟨rfl, rfl⟩))
    (fun os started H enc _ => tideGauges_lifted os started H enc)
#print axioms tideGauges_holds
end Go.Proofs.YtgjkfmcjalcefaaGreat
