/- CurveOvers returns true at every input, and its arguments read afterwards as they read before. No condition. -/
import Derived.Test.YtcaemeedmnpdjaaLawO
import Derived.Test.YtcaemeedmnpdjaaOpen
namespace Go.Proofs.Ytcaemeedmnpdjaa
open Go.ChangeShapes Go.WideShapes Go.ChangeAt Go.RowKit

set_option maxRecDepth 100000 in
theorem open_peak {H : Type} {enc : TypeId × Value → H} {W : World} {base b0 : Nat} {spare : Nat → Bool} {held : Bool} {r : Reach} {v : Value} {d : DataW H} {p : List MemPlace} (hv : Value.okWide Try.prog W r b0 47 v) (h : DataW.Trod enc Try.prog W base spare held 47 v d p) :
    ∃ pk : Pk, v = .agg #[.int .i64 pk.ln, .int .i64 pk.ld, .int .i64 pk.hn, .int .i64 pk.hd, .int .i64 pk.al, .int .i64 pk.ah] := by
  obtain ⟨cs, rfl, hsz⟩ := okWide_struct Try.underlying47 hv
  have hC : Try.prog.cellsOf 47 = 6 := by kernel_rfl
  have hF : Try.prog.cellsOf 23 = 2 := by kernel_rfl
  have hI : Try.prog.cellsOf 3 = 1 := by kernel_rfl
  obtain ⟨l⟩ := cs
  match l, (hsz.trans hC) with
  | [c0, c1, c2, c3, c4, c5], _ =>
    obtain ⟨fuel, hf⟩ := h
    obtain ⟨y0, y1, y2, y3, n, hx, _, g0, g1, g2, g3⟩ := Joins.trod_struct4 Try.underlying47 hf
    simp only [Value.cells, hF, hI] at g0 g1 g2 g3
    obtain ⟨a, b, e0⟩ := open_pair2 Try.underlying23 (by kernel_rfl) Try.underlying3 Try.underlying3 g0 rfl
    obtain ⟨a', b', e1⟩ := open_pair2 Try.underlying23 (by kernel_rfl) Try.underlying3 Try.underlying3 g1 rfl
    obtain ⟨s, e2, _⟩ := DataW.trod_int Try.underlying3 g2
    obtain ⟨t, e3, _⟩ := DataW.trod_int Try.underlying3 g3
    simp at e0 e1 e2 e3
    exact ⟨⟨a, b, a', b', s, t⟩, by rw [e0.1, e0.2, e1.1, e1.2, e2, e3]⟩
set_option maxRecDepth 100000 in
theorem curveOvers_lifted (os : Os) (started : os.Started) (H : Type) (enc : TypeId × Value → H) :
    ReturnsInHanded {} Try.checked os 5 .any (Rows.curveOversSpec.pre6 enc Try.prog Try.f5 Rows.curveOversRow.domain false) (Rows.curveOversSpec.post enc Try.prog Try.f5 false true false false) := by
  refine returnsInHanded_of_change (C := Try.checked) Try.own started (by kernel_rfl) Try.func5
    (ChangeSpec.witness6 (enc := enc) (C := Try.checked) false ⟨#[], #[.agg #[.slice none 0 0, .int .i64 0], .agg #[.int .i64 0, .int .i64 0], .agg #[.int .i64 0, .int .i64 0, .int .i64 0, .int .i64 0, .int .i64 0, .int .i64 0], .int .u8 0], []⟩ 8 (by kernel_rfl) (by kernel_rfl) (by kernel_rfl) (by kernel_rfl)) ?_
  intro W base args ds gs before hval0 hW hcnd _
  have hval : ∀ (j : Nat) t v, Try.f5.params[j]? = some t → args[j]? = some v → Value.okWide Try.prog W .any base t v := hval0
  have hW' := hW
  obtain ⟨p, q, hA0, hV, rfl, hfz, hnd⟩ := hW
  have hA : DataW.TrodAll enc Try.prog W 0 (fun _ => true) true Try.f5.params.toList args.toList ds p := hA0
  rw [Try.params5] at hA hval
  obtain ⟨v0, v1, v2, v3, d0, d1, d2, d3, p0, p1, p2, p3, rfl, rfl, rfl, h0, h1, h2, h3⟩ := trodAll_four hA
  obtain ⟨rfl, rfl⟩ := trodVars_none hV
  obtain ⟨A, c, ks, err, rfl, hk, _⟩ := open_curve (hval 0 33 v0 rfl rfl) h0
  have hsl := curve_ok (hval 0 33 _ rfl rfl)
  obtain ⟨lo, hi, rfl⟩ := open_span (hval 1 36 v1 rfl rfl) h1
  obtain ⟨pk, rfl⟩ := open_peak (hval 2 47 v2 rfl rfl) h2
  obtain ⟨what, rfl, _, _, _⟩ := open_int Try.underlying5 (hval 3 5 v3 rfl rfl) h3
  clear hA0 hval0
  refine (overs_of W A c ks err lo hi what pk hsl hk).mono fun x W' ⟨he, hb⟩ => ?_
  subst he
  exact ⟨_, rfl, law_post Try.laidOut hW' (by decide +kernel) rfl Try.underlying4 rfl rfl rfl rfl hb⟩

theorem curveOvers_holds : Rows.CurveOversSaid :=
  OpenClaim.holds_of_wide 5 Try.f5 rfl rfl rfl rfl rfl rfl rfl ⟨rfl, rfl, rfl, rfl, rfl⟩ rfl rfl rfl rfl rfl (by kernel_rfl) Try.func5 (by kernel_rfl)
    (of_decide_eq_true (by kernel_rfl)) (by unfold Func.isWrapper; first | (rw [if_pos (by decide +kernel)]; kernel_rfl) | (rw [if_neg (by decide +kernel)]; exact ⟨rfl, rfl⟩))
    (fun os started H enc _ => curveOvers_lifted os started H enc)
#print axioms curveOvers_holds
end Go.Proofs.Ytcaemeedmnpdjaa
