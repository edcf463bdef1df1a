/- TideCyclesHold returns true at every input, and its arguments read afterwards as they read before. No condition. -/
import Derived.Test.YtlldifgofcbfoaaTs
import Derived.Test.YtlldifgofcbfoaaOpen
namespace Go.Proofs.Ytlldifgofcbfoaa
open Go.ChangeShapes Go.WideShapes Go.ChangeAt Go.RowKit Go.Deep Go.Proofs.Ytlldifgofcbfoaa.Ev

/-- the law, said of the model -/
theorem cyclesHold_of (w : World) (A1 A2 : Option Addr) (c1 c2 : Nat) (id bg ev id2 bg2 ev2 t : Int) (kk : Nat) (hkk : kk ≤ 255) (hs hs2 : List Int) (hA1 : SlOk w A1 hs.length c1) (hl1 : hs.length ≤ c1) (hk1 : ItAt w A1 hs) (hA2 : SlOk w A2 hs2.length c2) (hl2 : hs2.length ≤ c2) (hk2 : ItAt w A2 hs2) :
    Calls Try.prog 7 #[.agg #[.int .i64 id, .int .i64 bg, .int .i64 ev, .slice A1 hs.length c1], .agg #[.int .i64 id2, .int .i64 bg2, .int .i64 ev2, .slice A2 hs2.length c2], .int .i64 t, .int .u8 kk] w fun e w' => e = .returned (.bool true) ∧ RowKit.Below w.heap.size w w' := by
  obtain ⟨v, h1, h2⟩ := it_abs hA1 hl1 hk1
  obtain ⟨v2, h3, h4⟩ := it_abs hA2 hl2 hk2
  refine (Con.calls mixed Bs_sound (cyclesHold_con _ (absH_good w) id bg ev id2 bg2 ev2 t kk hkk v v2 hs hs2 h1 h3) (VRs.cons (vr_agg4 vr_int vr_int vr_int h2) (vrs3 (vr_agg4 vr_int vr_int vr_int h4) vr_int vr_int))).mono ?_
  rintro e w' ⟨U, E, rfl, hU, hb⟩
  simp only [VR] at hU
  exact ⟨by rw [hU], hb⟩
set_option maxRecDepth 100000 in
theorem tideCyclesHold_lifted (os : Os) (started : os.Started) (H : Type) (enc : TypeId × Value → H) :
    ReturnsInHanded {} Try.checked os 7 .any (Rows.tideCyclesHoldSpec.pre6 enc Try.prog Try.f7 Rows.tideCyclesHoldRow.domain false) (Rows.tideCyclesHoldSpec.post enc Try.prog Try.f7 false true false false) := by
  refine returnsInHanded_of_change (C := Try.checked) Try.own started (by kernel_rfl) Try.func7
    (ChangeSpec.witness6 (enc := enc) (C := Try.checked) false ⟨#[], #[.agg #[.int .i64 0, .int .i64 0, .int .i64 0, .slice none 0 0], .agg #[.int .i64 0, .int .i64 0, .int .i64 0, .slice none 0 0], .int .i64 0, .int .u8 0], []⟩ 8 (by kernel_rfl) (by kernel_rfl) (by kernel_rfl) (by kernel_rfl)) ?_
  intro W base args ds gs before hval0 hW hcnd _
  have hval : ∀ (j : Nat) t v, Try.f7.params[j]? = some t → args[j]? = some v → Value.okWide Try.prog W .any base t v := hval0
  have hW' := hW
  obtain ⟨p, q, hA0, hV, rfl, hfz, hnd⟩ := hW
  have hA : DataW.TrodAll enc Try.prog W 0 (fun _ => true) true Try.f7.params.toList args.toList ds p := hA0
  rw [Try.params7] at hA hval
  obtain ⟨v0, vs0, d0, ds0, p0, q0, hargs, rfl, rfl, h0, hr0⟩ := trodAll_cons hA
  obtain ⟨v1, vs1, d1, ds1, p1, q1, rfl, rfl, rfl, h1, hr1⟩ := trodAll_cons hr0
  obtain ⟨v2, vs2, d2, ds2, p2, q2, rfl, rfl, rfl, h2, hr2⟩ := trodAll_cons hr1
  obtain ⟨v3, vs3, d3, ds3, p3, q3, rfl, rfl, rfl, h3, hr3⟩ := trodAll_cons hr2
  obtain ⟨rfl, rfl, rfl⟩ := trodAll_nil hr3
  obtain rfl : args = #[v0, v1, v2, v3] := by rw [← Array.toArray_toList (xs := args), hargs]
  obtain ⟨rfl, rfl⟩ := trodVars_none hV
  obtain ⟨id, bg, ev, A, c, hs, rfl, hl, hk, hsl⟩ := open_cycle (hval 0 28 v0 rfl rfl) h0
  obtain ⟨id2, bg2, ev2, A2, c2, hs2, rfl, hl2, hk2, hsl2⟩ := open_cycle (hval 1 28 v1 rfl rfl) h1
  obtain ⟨t, rfl, _, _, _⟩ := open_int Try.underlying3 (hval 2 3 v2 rfl rfl) h2
  obtain ⟨k, rfl, _, _, hwf⟩ := open_int Try.underlying5 (hval 3 5 v3 rfl rfl) h3
  have hmn : IntKind.min .u8 = 0 := by decide +kernel
  have hmx : IntKind.max .u8 = 255 := by decide +kernel
  have hkb : 0 ≤ k ∧ k ≤ 255 := by
    have hwf2 : (decide (IntKind.min .u8 ≤ k) && decide (k ≤ IntKind.max .u8)) = true := hwf
    rw [hmn, hmx] at hwf2
    simpa using hwf2
  obtain ⟨kk, rfl⟩ : ∃ kk : Nat, k = kk := ⟨k.toNat, by omega⟩
  clear hA0 hval0
  refine (cyclesHold_of W A A2 c c2 id bg ev id2 bg2 ev2 t kk (by omega) hs hs2 hsl hl hk hsl2 hl2 hk2).mono fun x W' ⟨he, hb⟩ => ?_
  subst he
  exact ⟨_, rfl, law_post Try.laidOut hW' (by decide +kernel) rfl Try.underlying4 rfl rfl rfl rfl hb⟩

theorem tideCyclesHold_holds : Rows.TideCyclesHoldSaid :=
  OpenClaim.holds_of_wide 7 Try.f7 rfl rfl rfl rfl rfl rfl rfl ⟨rfl, rfl, rfl, rfl, rfl⟩ rfl rfl rfl rfl rfl (by kernel_rfl) Try.func7 (by kernel_rfl)
    (of_decide_eq_true (by kernel_rfl)) (by unfold Func.isWrapper; first | (rw [if_pos (by decide +kernel)]; kernel_rfl) | (rw [if_neg (by decide +kernel)]; exact ⟨rfl, rfl⟩))
    (fun os started H enc _ => tideCyclesHold_lifted os started H enc)
#print axioms tideCyclesHold_holds
end Go.Proofs.Ytlldifgofcbfoaa
