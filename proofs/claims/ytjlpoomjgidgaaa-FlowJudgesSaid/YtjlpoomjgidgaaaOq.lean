/- Layer 5: arguments that are courses, cuts. -/
import Derived.Test.YtjlpoomjgidgaaaOp
import Derived.Test.YtjlpoomjgidgaaaNw
namespace Go.Proofs.Ytjlpoomjgidgaaa
open Go.ChangeShapes Go.WideShapes Go.ChangeAt Go.RowKit Go.Deep Go.Proofs.Ytjlpoomjgidgaaa.Ev

theorem vr_agg3 {E : Env} {a b c : AV} {x y z : Value} (h1 : VR E a x) (h2 : VR E b y) (h3 : VR E c z) : VR E (.agg [a, b, c]) (.agg #[x, y, z]) := by
  simp only [VR]
  exact ⟨[x, y, z], rfl, VRs.cons h1 (VRs.cons h2 (VRs.cons h3 VRs.nil))⟩
theorem inZ_abs {w : World} {A : Option Addr} {c : Nat} {l : List Int} (hA : SlOk w A l.length c) (hl : l.length ≤ c) (hk : At w inC 1 A l) : ∃ v, InZ (absH w) v l ∧ VR (idE w.heap.size) v (.slice A l.length c) := el_abs hA hl hk
section
variable {H : Type} {enc : TypeId × Value → H} {W : World} {base b0 : Nat} {spare : Nat → Bool} {held : Bool} {r : Reach}
set_option maxRecDepth 100000 in
theorem open_course {v : Value} {d : DataW H} {p : List MemPlace} (hv : Value.okWide Try.prog W r b0 28 v) (h : DataW.Trod enc Try.prog W base spare held 28 v d p) :
    ∃ (A1 A2 A3 : Option Addr) (c1 c2 c3 : Nat) (l1 l2 l3 : List Int), v = .agg #[.slice A1 l1.length c1, .slice A2 l2.length c2, .slice A3 l3.length c3] ∧ SlOk W A1 l1.length c1 ∧ SlOk W A2 l2.length c2 ∧ SlOk W A3 l3.length c3 ∧ l1.length ≤ c1 ∧ l2.length ≤ c2 ∧ l3.length ≤ c3 ∧ At W inC 1 A1 l1 ∧ At W inC 1 A2 l2 ∧ At W inC 1 A3 l3 := by
  obtain ⟨v0, v1, v2, y0, y1, y2, k, rfl, _, _, h0, h1, h2⟩ := Joins.open_agg3 Try.underlying28 (by kernel_rfl) (by kernel_rfl) hv h
  obtain ⟨A1, c1, l1, e1, hl1, hk1⟩ := trod_ints h0
  obtain ⟨A2, c2, l2, e2, hl2, hk2⟩ := trod_ints h1
  obtain ⟨A3, c3, l3, e3, hl3, hk3⟩ := trod_ints h2
  simp only [List.cons.injEq, and_true] at e1 e2 e3
  subst e1 e2 e3
  exact ⟨A1, A2, A3, c1, c2, c3, l1, l2, l3, rfl, slOk_of Try.underlying26 (field_ok (i := 0) (ts := [26, 26, 26]) Try.underlying28 (by kernel_rfl) rfl rfl hv), slOk_of Try.underlying26 (field_ok (i := 1) (ts := [26, 26, 26]) Try.underlying28 (by kernel_rfl) rfl rfl hv), slOk_of Try.underlying26 (field_ok (i := 2) (ts := [26, 26, 26]) Try.underlying28 (by kernel_rfl) rfl rfl hv), hl1, hl2, hl3, hk1, hk2, hk3⟩
set_option maxRecDepth 100000 in
theorem open_cut {v : Value} {d : DataW H} {p : List MemPlace} (hv : Value.okWide Try.prog W r b0 30 v) (h : DataW.Trod enc Try.prog W base spare held 30 v d p) :
    ∃ (way : Int) (A : Option Addr) (c : Nat) (l : List Int), v = .agg #[.int .i64 way, .slice A l.length c] ∧ SlOk W A l.length c ∧ l.length ≤ c ∧ At W inC 1 A l := by
  obtain ⟨v0, v1, y0, y1, k, rfl, _, _, h0, h1⟩ := Joins.open_agg2 Try.underlying30 (by kernel_rfl) (by kernel_rfl) hv h
  obtain ⟨way, e1, _⟩ := DataW.trod_int Try.underlying3 h0
  obtain ⟨A, c, l, e2, hl, hk⟩ := trod_ints h1
  simp only [List.cons.injEq, and_true] at e1 e2
  subst e1 e2
  exact ⟨way, A, c, l, rfl, slOk_of Try.underlying26 (field_ok (i := 1) (ts := [3, 26]) Try.underlying30 (by kernel_rfl) rfl rfl hv), hl, hk⟩
end
end Go.Proofs.Ytjlpoomjgidgaaa
