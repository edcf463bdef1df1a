/- TideAgain returns true at every input, and its arguments read afterwards as they read before. No condition. -/
import Derived.Test.YtlldifgofcbfoaaOpw
import Derived.Test.YtlldifgofcbfoaaUe
namespace Go.Proofs.Ytlldifgofcbfoaa
open Go.ChangeShapes Go.WideShapes Go.ChangeAt Go.RowKit Go.Deep Go.Proofs.Ytlldifgofcbfoaa.Ev

theorem u8_nat {k : Int} (hwf : (decide (IntKind.min .u8 ≤ k) && decide (k ≤ IntKind.max .u8)) = true) : ∃ n : Nat, k = n ∧ n ≤ 255 := by
  have hmn : IntKind.min .u8 = 0 := by decide +kernel
  have hmx : IntKind.max .u8 = 255 := by decide +kernel
  rw [hmn, hmx] at hwf
  have : 0 ≤ k ∧ k ≤ 255 := by simpa using hwf
  exact ⟨k.toNat, by omega, by omega⟩
/-- the law, said of the model -/
theorem again_of (w : World) (A1 A2 A3 : Option Addr) (c1 c2 c3 : Nat) (lv t id bg ev : Int) (nn mm : Nat) (hn : nn ≤ 255) (hm : mm ≤ 255) (l : List Cw) (ss : List Sh) (hs : List Int) (s1 : SlOk w A1 l.length c1) (s2 : SlOk w A2 ss.length c2) (hl : l.length ≤ 9223372036854775807) (k1 : l ≠ [] → ∃ b off, A1 = some ⟨b, off, none⟩ ∧ b < w.heap.size ∧ CyH (absH w) b off l) (k2 : ss ≠ [] → ∃ b off, A2 = some ⟨b, off, none⟩ ∧ b < w.heap.size ∧ ShH (absH w) b off ss) (s3 : SlOk w A3 hs.length c3) (hl3 : hs.length ≤ c3) (k3 : ItAt w A3 hs) :
    Calls Try.prog 3 #[.agg #[.int .i64 lv, .slice A1 l.length c1, .slice A2 ss.length c2], .agg #[.int .i64 id, .int .i64 bg, .int .i64 ev, .slice A3 hs.length c3], .int .i64 t, .int .u8 nn, .int .u8 mm] w fun e w' => e = .returned (.bool true) ∧ RowKit.Below w.heap.size w w' := by
  obtain ⟨cv, h1, h2⟩ := cy_abs s1 k1
  obtain ⟨sv, h3, h4⟩ := sh_abs s2 k2
  obtain ⟨v, h5, h6⟩ := it_abs s3 hl3 k3
  refine (Con.calls mixed Bs_sound (again_con _ (absH_good w) lv id bg ev t nn mm hn hm cv sv v l ss hs h1 h3 h5.itV hl) (VRs.cons (vr_agg3 vr_int h2 h4) (VRs.cons (vr_agg4 vr_int vr_int vr_int h6) (vrs3 vr_int vr_int vr_int)))).mono ?_
  rintro e w' ⟨U, E, rfl, hU, hb⟩
  simp only [VR] at hU
  exact ⟨by rw [hU], hb⟩
set_option maxRecDepth 100000 in
theorem tideAgain_lifted (os : Os) (started : os.Started) (H : Type) (enc : TypeId × Value → H) :
    ReturnsInHanded {} Try.checked os 3 .any (Rows.tideAgainSpec.pre6 enc Try.prog Try.f3 Rows.tideAgainRow.domain false) (Rows.tideAgainSpec.post enc Try.prog Try.f3 false true false false) := by
  refine returnsInHanded_of_change (C := Try.checked) Try.own started (by kernel_rfl) Try.func3
    (ChangeSpec.witness6 (enc := enc) (C := Try.checked) false ⟨#[], #[.agg #[.int .i64 0, .slice none 0 0, .slice none 0 0], .agg #[.int .i64 0, .int .i64 0, .int .i64 0, .slice none 0 0], .int .i64 0, .int .u8 0, .int .u8 0], []⟩ 8 (by kernel_rfl) (by kernel_rfl) (by kernel_rfl) (by kernel_rfl)) ?_
  intro W base args ds gs before hval0 hW hcnd _
  have hval : ∀ (j : Nat) t v, Try.f3.params[j]? = some t → args[j]? = some v → Value.okWide Try.prog W .any base t v := hval0
  have hW' := hW
  obtain ⟨p, q, hA0, hV, rfl, hfz, hnd⟩ := hW
  have hA : DataW.TrodAll enc Try.prog W 0 (fun _ => true) true Try.f3.params.toList args.toList ds p := hA0
  rw [Try.params3] at hA hval
  obtain ⟨v0, vs0, d0, ds0, p0, q0, hargs, rfl, rfl, h0, hr0⟩ := trodAll_cons hA
  obtain ⟨v1, vs1, d1, ds1, p1, q1, rfl, rfl, rfl, h1, hr1⟩ := trodAll_cons hr0
  obtain ⟨v2, vs2, d2, ds2, p2, q2, rfl, rfl, rfl, h2, hr2⟩ := trodAll_cons hr1
  obtain ⟨v3, vs3, d3, ds3, p3, q3, rfl, rfl, rfl, h3, hr3⟩ := trodAll_cons hr2
  obtain ⟨v4, vs4, d4, ds4, p4, q4, rfl, rfl, rfl, h4, hr4⟩ := trodAll_cons hr3
  obtain ⟨rfl, rfl, rfl⟩ := trodAll_nil hr4
  obtain rfl : args = #[v0, v1, v2, v3, v4] := by rw [← Array.toArray_toList (xs := args), hargs]
  obtain ⟨rfl, rfl⟩ := trodVars_none hV
  obtain ⟨lv, A1, A2, c1, c2, l, ss, rfl, s1, s2, hl, k1, k2⟩ := open_water (fun _ => rfl) (hval 0 25 v0 rfl rfl) h0
  obtain ⟨id, bg, ev, A3, c3, hs, rfl, hl3, k3, s3⟩ := open_cycle (hval 1 28 v1 rfl rfl) h1
  obtain ⟨t, rfl, _, _, _⟩ := open_int Try.underlying3 (hval 2 3 v2 rfl rfl) h2
  obtain ⟨n, rfl, _, _, hwf⟩ := open_int Try.underlying5 (hval 3 5 v3 rfl rfl) h3
  obtain ⟨nn, rfl, hnn⟩ := u8_nat hwf
  obtain ⟨m, rfl, _, _, hwf2⟩ := open_int Try.underlying5 (hval 4 5 v4 rfl rfl) h4
  obtain ⟨mm, rfl, hmm⟩ := u8_nat hwf2
  clear hA0 hval0
  refine (again_of W A1 A2 A3 c1 c2 c3 lv t id bg ev nn mm hnn hmm l ss hs s1 s2 (Nat.le_trans hl (Nat.le_of_eq (show maxLen = 9223372036854775807 from rfl))) k1 k2 s3 hl3 k3).mono fun x W' ⟨he, hb⟩ => ?_
  subst he
  exact ⟨_, rfl, law_post Try.laidOut hW' (by decide +kernel) rfl Try.underlying4 rfl rfl rfl rfl hb⟩

theorem tideAgain_holds : Rows.TideAgainSaid :=
  OpenClaim.holds_of_wide 3 Try.f3 rfl rfl rfl rfl rfl rfl rfl ⟨rfl, rfl, rfl, rfl, rfl⟩ rfl rfl rfl rfl rfl (by kernel_rfl) Try.func3 (by kernel_rfl)
    (of_decide_eq_true (by kernel_rfl)) (by unfold Func.isWrapper; first | (rw [if_pos (by decide +kernel)]; kernel_rfl) | (rw [if_neg (by decide +kernel)]; exact ⟨rfl, rfl⟩))
    (fun os started H enc _ => tideAgain_lifted os started H enc)
#print axioms tideAgain_holds
end Go.Proofs.Ytlldifgofcbfoaa
