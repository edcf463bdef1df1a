/- TideProves returns true at every input, and its arguments read afterwards as they read before. No condition. -/
import Derived.Test.YtekpffjcffeanaaZb
import Derived.Test.YtekpffjcffeanaaOi
import Derived.Test.YtekpffjcffeanaaOps
namespace Go.Proofs.Ytekpffjcffeanaa
open Go.ChangeShapes Go.WideShapes Go.ChangeAt Go.RowKit Go.Deep Go.Proofs.Ytekpffjcffeanaa.Ev

set_option maxRecDepth 100000 in
theorem ints_max {H : Type} {enc : TypeId × Value → H} {W : World} {base : Nat} {spare : Nat → Bool} {held : Bool} {v : Value} {d : DataW H} {p : List MemPlace} {A : Option Addr} {n c : Nat} (h : DataW.Trod enc Try.prog W base spare held 26 v d p) (e : v = .slice A n c) : n ≤ maxLen := by
  obtain ⟨f, hn⟩ := h
  subst e
  rcases open_slice Try.underlying26 hn with ⟨e2, _⟩ | ⟨a, len, cap, m, n', D, Pl, e2, hb, hl, hm, _⟩
  · simp [Value.cells] at e2
    omega
  · simp [Value.cells] at e2
    omega
/-- the law, said of the model -/
theorem tideProves_of (w : World) (A0a A0b : Option Addr) (c0a c0b : Nat) (lv0 : Int) (l0 : List Cw) (ss0 : List Sh) (s0a : SlOk w A0a l0.length c0a) (s0b : SlOk w A0b ss0.length c0b) (hl0 : l0.length ≤ 9223372036854775807) (k0a : l0 ≠ [] → ∃ b off, A0a = some ⟨b, off, none⟩ ∧ b < w.heap.size ∧ CyH (absH w) b off l0) (k0b : ss0 ≠ [] → ∃ b off, A0b = some ⟨b, off, none⟩ ∧ b < w.heap.size ∧ ShH (absH w) b off ss0) (lo1 hi1 : Int) (t2 : Int) (A3 : Option Addr) (c3 : Nat) (xs3 : List Int) (s3 : SlOk w A3 xs3.length c3) (hx3 : xs3.length ≤ c3) (k3 : ItAt w A3 xs3) (hm3 : xs3.length ≤ 9223372036854775807) :
    Calls Try.prog 14 #[.agg #[.int .i64 lv0, .slice A0a l0.length c0a, .slice A0b ss0.length c0b], .agg #[.int .i64 lo1, .int .i64 hi1], .int .i64 t2, .slice A3 xs3.length c3] w fun e w' => e = .returned (.bool true) ∧ RowKit.Below w.heap.size w w' := by
  obtain ⟨cv0, hc0, vc0⟩ := cy_abs s0a k0a
  obtain ⟨sv0, hs0, vs0⟩ := sh_abs s0b k0b
  obtain ⟨xv3, hv3, vx3⟩ := it_abs s3 hx3 k3
  refine (Con.calls mixed Bs_sound (provesL_con _ (absH_good w) lv0 lo1 hi1 t2 cv0 sv0 xv3 l0 ss0 xs3 hc0 hs0 hl0 hv3.itV hm3) (VRs.cons (vr_agg3 vr_int vc0 vs0) (VRs.cons (vr_agg2 vr_int vr_int) (VRs.cons vr_int (VRs.cons vx3 (VRs.nil)))))).mono ?_
  rintro e w' ⟨U, E, rfl, hU, hb⟩
  simp only [VR] at hU
  exact ⟨by rw [hU], hb⟩
set_option maxRecDepth 100000 in
theorem tideProves_lifted (os : Os) (started : os.Started) (H : Type) (enc : TypeId × Value → H) :
    ReturnsInHanded {} Try.checked os 14 .any (Rows.tideProvesSpec.pre6 enc Try.prog Try.f14 Rows.tideProvesRow.domain false) (Rows.tideProvesSpec.post enc Try.prog Try.f14 false true false false) := by
  refine returnsInHanded_of_change (C := Try.checked) Try.own started (by kernel_rfl) Try.func14
    (ChangeSpec.witness6 (enc := enc) (C := Try.checked) false ⟨#[], #[.agg #[.int .i64 0, .slice none 0 0, .slice none 0 0], .agg #[.int .i64 0, .int .i64 0], .int .i64 0, .slice none 0 0], []⟩ 8 (by kernel_rfl) (by kernel_rfl) (by kernel_rfl) (by kernel_rfl)) ?_
  intro W base args ds gs before hval0 hW hcnd _
  have hval : ∀ (j : Nat) t v, Try.f14.params[j]? = some t → args[j]? = some v → Value.okWide Try.prog W .any base t v := hval0
  have hW' := hW
  obtain ⟨p, q, hA0, hV, rfl, hfz, hnd⟩ := hW
  have hA : DataW.TrodAll enc Try.prog W 0 (fun _ => true) true Try.f14.params.toList args.toList ds p := hA0
  rw [Try.params14] at hA hval
  obtain ⟨v0, vs0, d0, ds0, p0, q0, hargs, rfl, rfl, h0, hr0⟩ := trodAll_cons hA
  obtain ⟨v1, vs1, d1, ds1, p1, q1, rfl, rfl, rfl, h1, hr1⟩ := trodAll_cons hr0
  obtain ⟨v2, vs2, d2, ds2, p2, q2, rfl, rfl, rfl, h2, hr2⟩ := trodAll_cons hr1
  obtain ⟨v3, vs3, d3, ds3, p3, q3, rfl, rfl, rfl, h3, hr3⟩ := trodAll_cons hr2
  obtain ⟨rfl, rfl, rfl⟩ := trodAll_nil hr3
  obtain rfl : args = #[v0, v1, v2, v3] := by rw [← Array.toArray_toList (xs := args), hargs]
  obtain ⟨rfl, rfl⟩ := trodVars_none hV
  obtain ⟨lv0, A0a, A0b, c0a, c0b, l0, ss0, rfl, s0a, s0b, hl0, k0a, k0b⟩ := open_water (fun _ => rfl) (hval 0 25 v0 rfl rfl) h0
  obtain ⟨lo1, hi1, rfl⟩ := open_span (hval 1 37 v1 rfl rfl) h1
  obtain ⟨t2, rfl, _, _, wf2⟩ := open_int Try.underlying3 (hval 2 3 v2 rfl rfl) h2
  obtain ⟨A3, c3, xs3, rfl, hx3, k3, s3⟩ := open_intsP (hval 3 26 v3 rfl rfl) h3
  have hm3 := ints_max h3 rfl
  clear hA0 hval0
  refine (tideProves_of W A0a A0b c0a c0b lv0 l0 ss0 s0a s0b (Nat.le_trans hl0 (Nat.le_of_eq (show maxLen = 9223372036854775807 from rfl))) k0a k0b lo1 hi1 t2 A3 c3 xs3 s3 hx3 k3 (Nat.le_trans hm3 (Nat.le_of_eq (show maxLen = 9223372036854775807 from rfl)))).mono fun x W' ⟨he, hb⟩ => ?_
  subst he
  exact ⟨_, rfl, law_post Try.laidOut hW' (by decide +kernel) rfl Try.underlying4 rfl rfl rfl rfl hb⟩

theorem tideProves_holds : Rows.TideProvesSaid :=
  OpenClaim.holds_of_wide 14 Try.f14 rfl rfl rfl rfl rfl rfl rfl ⟨rfl, rfl, rfl, rfl, rfl⟩ rfl rfl rfl rfl rfl (by kernel_rfl) Try.func14 (by kernel_rfl)
    (of_decide_eq_true (by kernel_rfl)) (by unfold Func.isWrapper; first | (rw [if_pos (by decide +kernel)]; kernel_rfl) | (rw [if_neg (by decide +kernel)]; exact ⟨rfl, rfl⟩))
    (fun os started H enc _ => tideProves_lifted os started H enc)
#print axioms tideProves_holds
end Go.Proofs.Ytekpffjcffeanaa
