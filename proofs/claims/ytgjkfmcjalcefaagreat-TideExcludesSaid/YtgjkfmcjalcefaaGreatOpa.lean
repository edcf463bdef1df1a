/- A water whose cycles may be sliced, as an argument. -/
import Derived.Test.YtgjkfmcjalcefaaGreatOpw
import Derived.Test.YtgjkfmcjalcefaaGreatEa
namespace Go.Proofs.YtgjkfmcjalcefaaGreat
open Go.ChangeShapes Go.WideShapes Go.ChangeAt Go.RowKit Go.Deep Go.Proofs.YtgjkfmcjalcefaaGreat.Ev

section
variable {H : Type} {enc : TypeId × Value → H} {W : World} {base b0 : Nat} {spare : Nat → Bool} {held : Bool} {r : Reach}
theorem slice_cap {t e : TypeId} {n : Nat} {cs : List Value} {y : DataW H × List MemPlace} (ht : Tryz.prog.underlying t = some (.slice e)) (h : DataW.trod enc Tryz.prog W base spare held n t cs = some y) {A : Option Addr} {ln c : Nat} (e : cs = [.slice A ln c]) : ln ≤ c := by
  rcases open_slice ht h with ⟨rfl, _⟩ | ⟨a, len, cap, m, n, D, Pl, rfl, hb, hl, hm, hmm, _, hi⟩
  · simp only [List.cons.injEq, Value.slice.injEq, and_true] at e
    omega
  · simp only [List.cons.injEq, Value.slice.injEq, and_true] at e
    omega
set_option maxRecDepth 100000 in
theorem open_waterA {v : Value} {d : DataW H} {p : List MemPlace} (hsp : ∀ b, spare b = true) (hv : Value.okWide Tryz.prog W r b0 25 v) (h : DataW.Trod enc Tryz.prog W base spare held 25 v d p) :
    ∃ (lv : Int) (A1 A2 : Option Addr) (c1 c2 : Nat) (l : List Cw) (ss : List Sh), v = .agg #[.int .i64 lv, .slice A1 l.length c1, .slice A2 ss.length c2] ∧ SlOk W A1 l.length c1 ∧ SlOk W A2 ss.length c2 ∧ l.length ≤ maxLen ∧ l.length ≤ c1 ∧ (l ≠ [] → ∃ b off, A1 = some ⟨b, off, none⟩ ∧ b < W.heap.size ∧ CyH (absH W) b off l) ∧ (ss ≠ [] → ∃ b off, A2 = some ⟨b, off, none⟩ ∧ b < W.heap.size ∧ ShH (absH W) b off ss) := by
  obtain ⟨v0, v1, v2, y0, y1, y2, k, rfl, _, _, h0, h1, h2⟩ := Joins.open_agg3 Tryz.underlying25 (by kernel_rfl) (by kernel_rfl) hv h
  obtain ⟨lv, e0, _⟩ := DataW.trod_int Tryz.underlying3 h0
  obtain ⟨A1, c1, l, e1, hl, hk1⟩ := open_cycles hsp h1
  have hx := slice_cap Tryz.underlying22 h1 e1
  obtain ⟨A2, c2, ss, e2, hk2⟩ := open_shifts h2
  simp only [List.cons.injEq, and_true] at e0 e1 e2
  subst e0 e1 e2
  exact ⟨lv, A1, A2, c1, c2, l, ss, rfl, slOk_of Tryz.underlying22 (field_ok (i := 1) (ts := [3, 22, 23]) Tryz.underlying25 (by kernel_rfl) rfl rfl hv), slOk_of Tryz.underlying23 (field_ok (i := 2) (ts := [3, 22, 23]) Tryz.underlying25 (by kernel_rfl) rfl rfl hv), hl, hx, hk1, hk2⟩
end
theorem cy_absA {w : World} {A : Option Addr} {c : Nat} {l : List Cw} (hA : SlOk w A l.length c) (hx : l.length ≤ c) (hk : l ≠ [] → ∃ b off, A = some ⟨b, off, none⟩ ∧ b < w.heap.size ∧ CyH (absH w) b off l) : ∃ cv, CyA (absH w) cv l ∧ VR (idE w.heap.size) cv (.slice A l.length c) := by
  rcases hA with ⟨rfl, h0, rfl⟩ | ⟨b, off, rfl, C, t, fr, hC⟩
  · have : l = [] := List.length_eq_zero_iff.1 h0
    subst this
    exact ⟨.slice0, .inl ⟨.inl rfl, rfl⟩, by simp [VR]⟩
  · have hb := (Array.getElem?_eq_some_iff.1 hC).1
    refine ⟨.slice b off l.length (.k c), .inr ⟨b, off, c, rfl, hx, fun i hi => ?_⟩, by simp only [VR]; exact ⟨b, 0, if_pos hb, rfl⟩⟩
    obtain ⟨b', off', e, hb', hc⟩ := hk (by intro h; subst h; simp at hi)
    cases e
    exact hc i hi
end Go.Proofs.YtgjkfmcjalcefaaGreat
