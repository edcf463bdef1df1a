/- CurveKeeps returns true at every input, and its arguments read afterwards as they read before. No condition. -/
import Derived.Test.YtbhklifflhoinaaGreatLawKe
import Derived.Test.YtbhklifflhoinaaGreatOpen
namespace Go.Proofs.YtbhklifflhoinaaGreat
open Go.ChangeShapes Go.WideShapes Go.ChangeAt Go.RowKit Go.Deep

set_option maxRecDepth 100000 in
theorem cell_ok {W : World} {r : Reach} {b0 : Nat} {t e : TypeId} {v : Value} (ht : Tryz.prog.underlying t = some (.slice e)) (h : Value.okWide Tryz.prog W r b0 t v) : Cell.okWide Tryz.prog W r b0 t v := by
  unfold Value.okWide at h
  rw [ht] at h
  exact h
set_option maxRecDepth 100000 in
theorem slice_of_cells {W : World} {r : Reach} {b0 : Nat} {t e : TypeId} {v : Value} {A : Option Addr} {n c : Nat} (ht : Tryz.prog.underlying t = some (.slice e)) (h : Cell.okWide Tryz.prog W r b0 t v) (e0 : v.cells.toList = [.slice A n c]) : v = .slice A n c := by
  unfold Cell.okWide at h
  rw [ht] at h
  simp only at h
  unfold Cell.ok at h
  rw [ht] at h
  cases v <;> first | (simp [Value.cells] at e0; done) | skip
  all_goals first | (simpa [Value.cells] using e0) | (simp at h; done)
set_option maxRecDepth 100000 in
theorem open_ints {H : Type} {enc : TypeId × Value → H} {W : World} {base : Nat} {spare : Nat → Bool} {held : Bool} {n : Nat} {cs : List Value} {y : DataW H × List MemPlace} (h : DataW.trod enc Tryz.prog W base spare held n 25 cs = some y) :
    ∃ (A : Option Addr) (c : Nat) (xs : List Int), cs = [.slice A xs.length c] ∧ ItAt W A xs := by
  rcases open_slice Tryz.underlying25 h with ⟨rfl, _⟩ | ⟨a, len, cap, m, n, D, Pl, rfl, hb, hl, hm, hmm, _, hi⟩
  · exact ⟨none, 0, [], rfl, fun hne => absurd rfl hne⟩
  · have hC : Tryz.prog.cellsOf 3 = 1 := by kernel_rfl
    rw [hC] at hi
    have hlm : len ≤ m := by rw [hmm]; split <;> omega
    obtain ⟨xs, hkl, hk⟩ := ex_list (n := len) (p := fun i (k : Int) => W.cell? (a.add i) = some (.int .i64 k)) fun i hil => by
      obtain ⟨cs', hc, ht⟩ := hi i (by omega)
      obtain ⟨_, hlen, hat⟩ := World.cells?_some hc
      match cs', hlen with
      | [c0], _ =>
        obtain ⟨x, e1, _⟩ := DataW.trod_int Tryz.underlying3 ht
        simp only [List.cons.injEq, and_true] at e1
        subst e1
        have := hat 0 (by simp)
        exact ⟨x, by simpa [Addr.add] using this⟩
    subst hkl
    refine ⟨some a, cap, xs, rfl, fun hne => ?_⟩
    have h0 := hk 0 (List.length_pos_iff.2 hne)
    have e0 : a.add 0 = a := rfl
    rw [e0] at h0
    obtain ⟨hsp, hbl⟩ := cell_spot h0
    obtain ⟨b, off, sp⟩ := a
    subst hsp
    refine ⟨b, off, rfl, hbl, fun i hi => ?_⟩
    have := hk i hi
    have e1 : (⟨b, off, none⟩ : Addr).add i = ⟨b, off + i, none⟩ := by unfold Addr.add; split <;> simp_all
    rw [e1] at this
    exact this
set_option maxRecDepth 100000 in
theorem curveKeeps_lifted (os : Os) (started : os.Started) (H : Type) (enc : TypeId × Value → H) :
    ReturnsInHanded {} Tryz.checked os 5 .any (Rows.curveKeepsSpec.pre6 enc Tryz.prog Tryz.f5 Rows.curveKeepsRow.domain false) (Rows.curveKeepsSpec.post enc Tryz.prog Tryz.f5 false true false false) := by
  refine returnsInHanded_of_change (C := Tryz.checked) Tryz.own started (by kernel_rfl) Tryz.func5
    (ChangeSpec.witness6 (enc := enc) (C := Tryz.checked) false ⟨#[], #[.agg #[.slice none 0 0, .int .i64 0], .agg #[.slice none 0 0, .int .i64 0], .slice none 0 0, .agg #[.int .i64 0, .int .i64 0], .int .i64 0], []⟩ 8 (by kernel_rfl) (by kernel_rfl) (by kernel_rfl) (by kernel_rfl)) ?_
  intro W base args ds gs before hval0 hW hcnd _
  have hval : ∀ (j : Nat) t v, Tryz.f5.params[j]? = some t → args[j]? = some v → Value.okWide Tryz.prog W .any base t v := hval0
  have hW' := hW
  obtain ⟨p, q, hA0, hV, rfl, hfz, hnd⟩ := hW
  have hA : DataW.TrodAll enc Tryz.prog W 0 (fun _ => true) true Tryz.f5.params.toList args.toList ds p := hA0
  rw [Tryz.params5] at hA hval
  obtain ⟨v0, vs0, d0, ds0, p0, q0, hargs, rfl, rfl, h0, hr0⟩ := trodAll_cons hA
  obtain ⟨v1, vs1, d1, ds1, p1, q1, rfl, rfl, rfl, h1, hr1⟩ := trodAll_cons hr0
  obtain ⟨v2, vs2, d2, ds2, p2, q2, rfl, rfl, rfl, h2, hr2⟩ := trodAll_cons hr1
  obtain ⟨v3, vs3, d3, ds3, p3, q3, rfl, rfl, rfl, h3, hr3⟩ := trodAll_cons hr2
  obtain ⟨v4, vs4, d4, ds4, p4, q4, rfl, rfl, rfl, h4, hr4⟩ := trodAll_cons hr3
  obtain ⟨rfl, rfl, rfl⟩ := trodAll_nil hr4
  obtain rfl : args = #[v0, v1, v2, v3, v4] := by rw [← Array.toArray_toList (xs := args), hargs]
  obtain ⟨rfl, rfl⟩ := trodVars_none hV
  obtain ⟨A, c, ka, ea, rfl, hk, _⟩ := open_curve (hval 0 24 v0 rfl rfl) h0
  have hsl := curve_ok (hval 0 24 _ rfl rfl)
  obtain ⟨A2, c2, kb, eb, rfl, hk2, _⟩ := open_curve (hval 1 24 v1 rfl rfl) h1
  have hsl2 := curve_ok (hval 1 24 _ rfl rfl)
  obtain ⟨n1, h2'⟩ := h2
  obtain ⟨A3, c3, xs, e0, hk3⟩ := open_ints h2'
  have hv2 := cell_ok Tryz.underlying25 (hval 2 25 v2 rfl rfl)
  obtain rfl := slice_of_cells Tryz.underlying25 hv2 e0
  have hsl3 := slOk_of Tryz.underlying25 hv2
  obtain ⟨lo, hi, rfl⟩ := open_span (hval 3 27 v3 rfl rfl) h3
  obtain ⟨x, rfl, _, _, _⟩ := open_int Tryz.underlying3 (hval 4 3 v4 rfl rfl) h4
  clear hA0 hval0
  refine (keeps_of W A A2 A3 c c2 c3 ka kb ea eb lo hi x xs hsl hk hsl2 hk2 hsl3 hk3).mono fun x W' ⟨he, hb⟩ => ?_
  subst he
  exact ⟨_, rfl, law_post Tryz.laidOut hW' (by decide +kernel) rfl Tryz.underlying4 rfl rfl rfl rfl hb⟩

theorem curveKeeps_holds : Rows.CurveKeepsSaid :=
  OpenClaim.holds_of_wide 5 Tryz.f5 rfl rfl rfl rfl rfl rfl rfl ⟨rfl, rfl, rfl, rfl, rfl⟩ rfl rfl rfl rfl rfl (by kernel_rfl) Tryz.func5 (by kernel_rfl)
    (of_decide_eq_true (by kernel_rfl)) (by unfold Func.isWrapper; first | (rw [if_pos (by decide +kernel)]; kernel_rfl) | (rw [if_neg (by decide +kernel)]; exact ⟨rfl, rfl⟩))
    (fun os started H enc _ => curveKeeps_lifted os started H enc)
#print axioms curveKeeps_holds
end Go.Proofs.YtbhklifflhoinaaGreat
