/- TideCycles returns true at every input, and its arguments read afterwards as they read before. No condition. -/
import Derived.Test.YtlldifgofcbfoaaTj
import Derived.Test.YtlldifgofcbfoaaOpen
namespace Go.Proofs.Ytlldifgofcbfoaa
open Go.ChangeShapes Go.WideShapes Go.ChangeAt Go.RowKit Go.Deep Go.Proofs.Ytlldifgofcbfoaa.Ev

/-- the law, said of the model -/
theorem cycles_of (w : World) (A1 A2 : Option Addr) (c1 c2 : Nat) (id bg ev id2 bg2 ev2 : Int) (hs hs2 : List Int) (hA1 : SlOk w A1 hs.length c1) (hl1 : hs.length ≤ c1) (hk1 : ItAt w A1 hs) (hA2 : SlOk w A2 hs2.length c2) (hl2 : hs2.length ≤ c2) (hk2 : ItAt w A2 hs2) :
    Calls Try.prog 15 #[.agg #[.int .i64 id, .int .i64 bg, .int .i64 ev, .slice A1 hs.length c1], .agg #[.int .i64 id2, .int .i64 bg2, .int .i64 ev2, .slice A2 hs2.length c2]] w fun e w' => e = .returned (.bool true) ∧ RowKit.Below w.heap.size w w' := by
  obtain ⟨v, h1, h2⟩ := it_abs hA1 hl1 hk1
  obtain ⟨v2, h3, h4⟩ := it_abs hA2 hl2 hk2
  refine (Con.calls mixed Bs_sound (cycles_con _ (absH_good w) id bg ev id2 bg2 ev2 v v2 hs hs2 h1 h3) (vrs2 (vr_agg4 vr_int vr_int vr_int h2) (vr_agg4 vr_int vr_int vr_int h4))).mono ?_
  rintro e w' ⟨U, E, rfl, hU, hb⟩
  simp only [VR] at hU
  exact ⟨by rw [hU], hb⟩
set_option maxRecDepth 100000 in
theorem tideCycles_lifted (os : Os) (started : os.Started) (H : Type) (enc : TypeId × Value → H) :
    ReturnsInHanded {} Try.checked os 15 .any (Rows.tideCyclesSpec.pre6 enc Try.prog Try.f15 Rows.tideCyclesRow.domain false) (Rows.tideCyclesSpec.post enc Try.prog Try.f15 false true false false) := by
  refine returnsInHanded_of_change (C := Try.checked) Try.own started (by kernel_rfl) Try.func15
    (ChangeSpec.witness6 (enc := enc) (C := Try.checked) false ⟨#[], #[.agg #[.int .i64 0, .int .i64 0, .int .i64 0, .slice none 0 0], .agg #[.int .i64 0, .int .i64 0, .int .i64 0, .slice none 0 0]], []⟩ 8 (by kernel_rfl) (by kernel_rfl) (by kernel_rfl) (by kernel_rfl)) ?_
  intro W base args ds gs before hval0 hW hcnd _
  have hval : ∀ (j : Nat) t v, Try.f15.params[j]? = some t → args[j]? = some v → Value.okWide Try.prog W .any base t v := hval0
  have hW' := hW
  obtain ⟨p, q, hA0, hV, rfl, hfz, hnd⟩ := hW
  have hA : DataW.TrodAll enc Try.prog W 0 (fun _ => true) true Try.f15.params.toList args.toList ds p := hA0
  rw [Try.params15] at hA hval
  obtain ⟨v0, vs0, d0, ds0, p0, q0, hargs, rfl, rfl, h0, hr0⟩ := trodAll_cons hA
  obtain ⟨v1, vs1, d1, ds1, p1, q1, rfl, rfl, rfl, h1, hr1⟩ := trodAll_cons hr0
  obtain ⟨rfl, rfl, rfl⟩ := trodAll_nil hr1
  obtain rfl : args = #[v0, v1] := by rw [← Array.toArray_toList (xs := args), hargs]
  obtain ⟨rfl, rfl⟩ := trodVars_none hV
  obtain ⟨id, bg, ev, A, c, hs, rfl, hl, hk, hsl⟩ := open_cycle (hval 0 28 v0 rfl rfl) h0
  obtain ⟨id2, bg2, ev2, A2, c2, hs2, rfl, hl2, hk2, hsl2⟩ := open_cycle (hval 1 28 v1 rfl rfl) h1
  clear hA0 hval0
  refine (cycles_of W A A2 c c2 id bg ev id2 bg2 ev2 hs hs2 hsl hl hk hsl2 hl2 hk2).mono fun x W' ⟨he, hb⟩ => ?_
  subst he
  exact ⟨_, rfl, law_post Try.laidOut hW' (by decide +kernel) rfl Try.underlying4 rfl rfl rfl rfl hb⟩

theorem tideCycles_holds : Rows.TideCyclesSaid :=
  OpenClaim.holds_of_wide 15 Try.f15 rfl rfl rfl rfl rfl rfl rfl ⟨rfl, rfl, rfl, rfl, rfl⟩ rfl rfl rfl rfl rfl (by kernel_rfl) Try.func15 (by kernel_rfl)
    (of_decide_eq_true (by kernel_rfl)) (by unfold Func.isWrapper; first | (rw [if_pos (by decide +kernel)]; kernel_rfl) | (rw [if_neg (by decide +kernel)]; exact ⟨rfl, rfl⟩))
    (fun os started H enc _ => tideCycles_lifted os started H enc)
#print axioms tideCycles_holds
end Go.Proofs.Ytlldifgofcbfoaa
