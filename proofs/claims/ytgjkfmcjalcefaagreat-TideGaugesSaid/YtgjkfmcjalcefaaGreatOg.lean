/- Gauges that are an argument: what they read as. -/
import Derived.Test.YtgjkfmcjalcefaaGreatOpw
import Derived.Test.YtgjkfmcjalcefaaGreatQa
namespace Go.Proofs.YtgjkfmcjalcefaaGreat
open Go.ChangeShapes Go.WideShapes Go.ChangeAt Go.RowKit Go.Deep Go.Proofs.YtgjkfmcjalcefaaGreat.Ev

set_option maxRecDepth 100000 in
theorem cell_okw {W : World} {r : Reach} {b0 : Nat} {t e : TypeId} {v : Value} (ht : Tryz.prog.underlying t = some (.slice e)) (h : Value.okWide Tryz.prog W r b0 t v) : Cell.okWide Tryz.prog W r b0 t v := by
  unfold Value.okWide at h
  rw [ht] at h
  exact h
set_option maxRecDepth 100000 in
theorem slice_of_cells {W : World} {r : Reach} {b0 : Nat} {t e : TypeId} {v : Value} {A : Option Addr} {n c : Nat} (ht : Tryz.prog.underlying t = some (.slice e)) (h : Cell.okWide Tryz.prog W r b0 t v) (e0 : v.cells.toList = [.slice A n c]) : v = .slice A n c := by
  unfold Cell.okWide at h
  rw [ht] at h
  simp only at h
  unfold Cell.ok at h
  rw [ht] at h
  cases v <;> first | (simp [Value.cells] at e0; done) | skip
  all_goals first | (simpa [Value.cells] using e0) | (simp at h; done)
section
variable {H : Type} {enc : TypeId × Value → H} {W : World} {base b0 : Nat} {spare : Nat → Bool} {held : Bool} {r : Reach}
set_option maxRecDepth 100000 in
theorem trod_gauges {n : Nat} {cs : List Value} {y : DataW H × List MemPlace} (h : DataW.trod enc Tryz.prog W base spare held n 26 cs = some y) :
    ∃ (A : Option Addr) (c : Nat) (l : List Ga), cs = [.slice A l.length c] ∧ l.length ≤ c ∧ (l ≠ [] → ∃ b off, A = some ⟨b, off, none⟩ ∧ b < W.heap.size ∧ GaH (absH W) b off l) := by
  rcases open_slice Tryz.underlying26 h with ⟨rfl, _⟩ | ⟨a, len, cap, m, n, D, Pl, rfl, hb, hl, hm, hmm, _, hi⟩
  · exact ⟨none, 0, [], rfl, Nat.le_refl _, fun hne => absurd rfl hne⟩
  · have hC : Tryz.prog.cellsOf 75 = 4 := by kernel_rfl
    rw [hC] at hi
    have hlm : len ≤ m := by rw [hmm]; split <;> omega
    obtain ⟨l, hkl, hk⟩ := ex_list (n := len) (p := fun i (k : Ga) => W.cell? (a.add (i * 4)) = some (.int .i64 k.id) ∧ W.cell? (a.add (i * 4 + 1)) = some (.int .i64 k.tk) ∧ W.cell? (a.add (i * 4 + 2)) = some (.int .i64 k.lo) ∧ W.cell? (a.add (i * 4 + 3)) = some (.int .i64 k.hi)) fun i hil => by
      obtain ⟨cs', hc, ht⟩ := hi i (by omega)
      obtain ⟨_, hlen, hat⟩ := World.cells?_some hc
      obtain ⟨z0, z1, z2, n', hx, _, g0, g1, g2⟩ := trod_struct3 Tryz.underlying75 ht
      match cs', hlen with
      | [c0, c1, c2, c3], _ =>
        have k0 : Tryz.prog.cellsOf 3 = 1 := by kernel_rfl
        have k2 : Tryz.prog.cellsOf 30 = 2 := by kernel_rfl
        simp only [k0, List.drop_zero, List.take_succ_cons, List.take_zero] at g0
        simp only [k0, List.drop_succ_cons, List.drop_zero, List.take_succ_cons, List.take_zero] at g1
        simp only [k0, k2, List.drop_succ_cons, List.drop_zero, List.take_succ_cons, List.take_zero] at g2
        obtain ⟨id, e0, _⟩ := DataW.trod_int Tryz.underlying3 g0
        obtain ⟨tk, e1, _⟩ := DataW.trod_int Tryz.underlying3 g1
        obtain ⟨y0, y1, n2, hx2, _, f0, f1⟩ := trod_struct2 Tryz.underlying30 g2
        simp only [k0, List.drop_zero, List.take_succ_cons, List.take_zero] at f0
        simp only [k0, List.drop_succ_cons, List.drop_zero, List.take_succ_cons, List.take_zero] at f1
        obtain ⟨lo, e2, _⟩ := DataW.trod_int Tryz.underlying3 f0
        obtain ⟨hi', e3, _⟩ := DataW.trod_int Tryz.underlying3 f1
        simp only [List.cons.injEq, and_true] at e0 e1 e2 e3
        subst e0 e1 e2 e3
        refine ⟨⟨id, tk, lo, hi'⟩, ?_, ?_, ?_, ?_⟩
        · have := hat 0 (by simp); simpa [Addr.add] using this
        · have := hat 1 (by simp); rw [add_add] at this; simpa using this
        · have := hat 2 (by simp); rw [add_add] at this; simpa using this
        · have := hat 3 (by simp); rw [add_add] at this; simpa using this
    subst hkl
    refine ⟨some a, cap, l, rfl, hl, fun hne => ?_⟩
    have h0 := (hk 0 (List.length_pos_iff.2 hne)).1
    simp only [Nat.zero_mul] at h0
    have e0 : a.add 0 = a := rfl
    rw [e0] at h0
    obtain ⟨hsp, hbl⟩ := cell_spot h0
    obtain ⟨b, off, sp⟩ := a
    subst hsp
    refine ⟨b, off, rfl, hbl, fun i hi => ?_⟩
    obtain ⟨h1, h2, h3, h4⟩ := hk i hi
    rw [add3] at h1 h2 h3 h4
    rw [← nthG_eq hi] at h1 h2 h3 h4
    exact ⟨absH_rd h1 rfl, absH_rd h2 rfl, absH_rd h3 rfl, absH_rd h4 rfl, trivial⟩
set_option maxRecDepth 100000 in
theorem open_gaugesA {v : Value} {d : DataW H} {p : List MemPlace} (hv : Value.okWide Tryz.prog W r b0 26 v) (h : DataW.Trod enc Tryz.prog W base spare held 26 v d p) :
    ∃ (A : Option Addr) (c : Nat) (l : List Ga), v = .slice A l.length c ∧ SlOk W A l.length c ∧ l.length ≤ c ∧ (l ≠ [] → ∃ b off, A = some ⟨b, off, none⟩ ∧ b < W.heap.size ∧ GaH (absH W) b off l) := by
  obtain ⟨n, hn⟩ := h
  obtain ⟨A, c, l, e, hl, k⟩ := trod_gauges hn
  have hc := cell_okw Tryz.underlying26 hv
  have e2 := slice_of_cells Tryz.underlying26 hc e
  subst e2
  exact ⟨A, c, l, rfl, slOk_of Tryz.underlying26 hc, hl, k⟩
end
end Go.Proofs.YtgjkfmcjalcefaaGreat
