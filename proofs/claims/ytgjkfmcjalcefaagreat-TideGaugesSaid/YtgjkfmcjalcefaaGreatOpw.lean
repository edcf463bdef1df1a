/- An argument that is a water: what it reads as. -/
import Derived.Test.YtgjkfmcjalcefaaGreatOpen
import Derived.Test.YtgjkfmcjalcefaaGreatUd
import Derived.Deep.Strs
namespace Go.Proofs.YtgjkfmcjalcefaaGreat
open Go.ChangeShapes Go.WideShapes Go.ChangeAt Go.RowKit Go.Deep Go.Proofs.YtgjkfmcjalcefaaGreat.Ev

theorem absC_slice {n b off len cap : Nat} (h : ¬ (len = 0 ∧ cap = 0)) (hb : b < n) : absC n (.slice (some ⟨b, off, none⟩) len cap) = some (.slice b off len (.k cap)) := by
  rcases len with _ | len
  · rcases cap with _ | cap
    · exact absurd ⟨rfl, rfl⟩ h
    · simp [absC, hb]
  · simp [absC, hb]
/-- what is known of a slice that lies in a cell -/
def SlIn (W : World) (A : Option Addr) (ln c : Nat) : Prop := (A = none ∧ ln = 0 ∧ c = 0) ∨ (∃ a, A = some a ∧ ln = 0 ∧ c = 0) ∨ ∃ b off, A = some ⟨b, off, none⟩ ∧ ∃ C t fr, W.heap[b]? = some (.cells C t fr)
theorem it_cell {W : World} {A : Option Addr} {c : Nat} {xs : List Int} (hz : SlIn W A xs.length c) (hk : ItAt W A xs) : ∃ v, absC W.heap.size (.slice A xs.length c) = some v ∧ ItV (absH W) v xs := by
  rcases hz with ⟨rfl, h0, rfl⟩ | ⟨a, rfl, h0, rfl⟩ | ⟨b, off, rfl, C, t, fr, hC⟩
  · have : xs = [] := List.length_eq_zero_iff.1 h0
    subst this
    exact ⟨.slice0, rfl, .inl ⟨.inl rfl, rfl⟩⟩
  · have : xs = [] := List.length_eq_zero_iff.1 h0
    subst this
    exact ⟨.sliceZ, rfl, .inl ⟨.inr rfl, rfl⟩⟩
  · have hb := (Array.getElem?_eq_some_iff.1 hC).1
    by_cases hz : xs.length = 0 ∧ c = 0
    · obtain ⟨h0, rfl⟩ := hz
      have : xs = [] := List.length_eq_zero_iff.1 h0
      subst this
      exact ⟨.sliceZ, rfl, .inl ⟨.inr rfl, rfl⟩⟩
    · refine ⟨.slice b off xs.length (.k c), absC_slice hz hb, .inr ⟨b, off, .k c, rfl, fun i hi => ?_⟩⟩
      obtain ⟨b', off', e, hb', hc⟩ := hk (by intro h; subst h; simp at hi)
      cases e
      rw [Nat.mul_one]
      exact absH_rd (hc i hi) rfl
section
variable {H : Type} {enc : TypeId × Value → H} {W : World} {base b0 : Nat} {spare : Nat → Bool} {held : Bool} {r : Reach}
theorem cell_obj {a : Addr} {v : Value} (h : W.cell? a = some v) : a.spot = none ∧ ∃ C t fr, W.heap[a.block]? = some (.cells C t fr) := by
  unfold World.cell? at h
  split at h
  · rename_i C t fr hb
    split at h
    · cases h
    · rename_i hs
      exact ⟨by simpa using hs, C, t, fr, hb⟩
  · cases h
/-- a slice that lies in a cell, of elements of at least one cell -/
theorem slice_info {t e : TypeId} {n : Nat} {cs : List Value} {y : DataW H × List MemPlace} (ht : Tryz.prog.underlying t = some (.slice e)) (hc1 : 0 < Tryz.prog.cellsOf e) (hs : ∀ b, spare b = true) (h : DataW.trod enc Tryz.prog W base spare held n t cs = some y) {A : Option Addr} {ln c : Nat} (e : cs = [.slice A ln c]) : SlIn W A ln c := by
  rcases open_slice ht h with ⟨rfl, _⟩ | ⟨a, len, cap, m, n, D, Pl, rfl, hb, hl, hm, hmm, _, hi⟩
  · simp only [List.cons.injEq, Value.slice.injEq, and_true] at e
    exact .inl ⟨e.1.symm, e.2.1.symm, e.2.2.symm⟩
  · simp only [List.cons.injEq, Value.slice.injEq, and_true] at e
    obtain ⟨e1, e2, e3⟩ := e
    by_cases h0 : cap = 0
    · exact .inr (.inl ⟨a, e1.symm, by omega, by omega⟩)
    · have hm' : 0 < m := by rw [hmm, hs]; simp; omega
      obtain ⟨cs', hc, _⟩ := hi 0 hm'
      obtain ⟨_, hlen, hat⟩ := World.cells?_some hc
      have h1 := hat 0 (by omega)
      simp only [Nat.zero_mul] at h1
      have e0 : a.add 0 = a := rfl
      rw [e0, e0, List.getElem?_eq_getElem (by omega)] at h1
      obtain ⟨hsp, C, t, fr, hC⟩ := cell_obj h1
      obtain ⟨b, off, sp⟩ := a
      subst hsp
      exact .inr (.inr ⟨b, off, e1.symm, C, t, fr, hC⟩)
theorem add3 (b off k : Nat) : (⟨b, off, none⟩ : Addr).add k = ⟨b, off + k, none⟩ := by unfold Addr.add; split <;> simp_all
set_option maxRecDepth 100000 in
theorem open_cycles {n : Nat} {cs : List Value} {y : DataW H × List MemPlace} (hs : ∀ b, spare b = true) (h : DataW.trod enc Tryz.prog W base spare held n 22 cs = some y) :
    ∃ (A : Option Addr) (c : Nat) (l : List Cw), cs = [.slice A l.length c] ∧ l.length ≤ maxLen ∧ (l ≠ [] → ∃ b off, A = some ⟨b, off, none⟩ ∧ b < W.heap.size ∧ CyH (absH W) b off l) := by
  rcases open_slice Tryz.underlying22 h with ⟨rfl, _⟩ | ⟨a, len, cap, m, n, D, Pl, rfl, hb, hl, hm, hmm, _, hi⟩
  · exact ⟨none, 0, [], rfl, by simp, fun hne => absurd rfl hne⟩
  · have hC : Tryz.prog.cellsOf 55 = 4 := by kernel_rfl
    rw [hC] at hi
    have hlm : len ≤ m := by rw [hmm]; split <;> omega
    obtain ⟨l, hkl, hk⟩ := ex_list (n := len) (p := fun i (k : Cw) => ∃ V, W.cell? (a.add (i * 4)) = some (.int .i64 k.c.id) ∧ W.cell? (a.add (i * 4 + 1)) = some (.int .i64 k.c.bg) ∧ W.cell? (a.add (i * 4 + 2)) = some (.int .i64 k.c.ev) ∧ W.cell? (a.add (i * 4 + 3)) = some V ∧ absC W.heap.size V = some k.v ∧ ItV (absH W) k.v k.c.hs) fun i hil => by
      obtain ⟨cs', hc, ht⟩ := hi i (by omega)
      obtain ⟨_, hlen, hat⟩ := World.cells?_some hc
      obtain ⟨z0, z1, z2, z3, n', hx, _, g0, g1, g2, g3⟩ := Joins.trod_struct4 Tryz.underlying55 ht
      match cs', hlen with
      | [c0, c1, c2, c3], _ =>
        have k0 : Tryz.prog.cellsOf 3 = 1 := by kernel_rfl
        have k3 : Tryz.prog.cellsOf 45 = 1 := by kernel_rfl
        simp only [k0, List.drop_zero, List.take_succ_cons, List.take_zero] at g0
        simp only [k0, List.drop_succ_cons, List.drop_zero, List.take_succ_cons, List.take_zero] at g1
        simp only [k0, List.drop_succ_cons, List.drop_zero, List.take_succ_cons, List.take_zero] at g2
        simp only [k3, List.drop_succ_cons, List.drop_zero, List.take_succ_cons, List.take_zero] at g3
        obtain ⟨id, e0, _⟩ := DataW.trod_int Tryz.underlying3 g0
        obtain ⟨bg, e1, _⟩ := DataW.trod_int Tryz.underlying3 g1
        obtain ⟨ev, e2, _⟩ := DataW.trod_int Tryz.underlying3 g2
        obtain ⟨A, c, xs, e3, _, hx2⟩ := open_ints g3
        have hz := slice_info Tryz.underlying45 (of_decide_eq_true (by kernel_rfl)) hs g3 e3
        simp only [List.cons.injEq, and_true] at e0 e1 e2 e3
        subst e0 e1 e2 e3
        obtain ⟨v, q1, q2⟩ := it_cell hz hx2
        refine ⟨⟨⟨id, bg, ev, xs⟩, v⟩, _, ?_, ?_, ?_, ?_, q1, q2⟩
        · have := hat 0 (by simp); simpa [Addr.add] using this
        · have := hat 1 (by simp); rw [add_add] at this; simpa using this
        · have := hat 2 (by simp); rw [add_add] at this; simpa using this
        · have := hat 3 (by simp); rw [add_add] at this; simpa using this
    subst hkl
    refine ⟨some a, cap, l, rfl, by omega, fun hne => ?_⟩
    obtain ⟨V, h0, _⟩ := hk 0 (List.length_pos_iff.2 hne)
    simp only [Nat.zero_mul] at h0
    have e0 : a.add 0 = a := rfl
    rw [e0] at h0
    obtain ⟨hsp, hbl⟩ := cell_spot h0
    obtain ⟨b, off, sp⟩ := a
    subst hsp
    refine ⟨b, off, rfl, hbl, fun i hi => ?_⟩
    obtain ⟨V, h1, h2, h3, h4, h5, h6⟩ := hk i hi
    rw [add3] at h1 h2 h3 h4
    rw [← nthW_eq hi] at h1 h2 h3 h5 h6
    exact ⟨⟨absH_rd h1 rfl, absH_rd h2 rfl, absH_rd h3 rfl, absH_rd h4 h5, trivial⟩, h6⟩
set_option maxRecDepth 100000 in
theorem open_shifts {n : Nat} {cs : List Value} {y : DataW H × List MemPlace} (h : DataW.trod enc Tryz.prog W base spare held n 23 cs = some y) :
    ∃ (A : Option Addr) (c : Nat) (l : List Sh), cs = [.slice A l.length c] ∧ (l ≠ [] → ∃ b off, A = some ⟨b, off, none⟩ ∧ b < W.heap.size ∧ ShH (absH W) b off l) := by
  rcases open_slice Tryz.underlying23 h with ⟨rfl, _⟩ | ⟨a, len, cap, m, n, D, Pl, rfl, hb, hl, hm, hmm, _, hi⟩
  · exact ⟨none, 0, [], rfl, fun hne => absurd rfl hne⟩
  · have hC : Tryz.prog.cellsOf 100 = 3 := by kernel_rfl
    rw [hC] at hi
    have hlm : len ≤ m := by rw [hmm]; split <;> omega
    obtain ⟨l, hkl, hk⟩ := ex_list (n := len) (p := fun i (k : Sh) => W.cell? (a.add (i * 3)) = some (.int .i64 k.fr) ∧ W.cell? (a.add (i * 3 + 1)) = some (.int .i64 k.to) ∧ W.cell? (a.add (i * 3 + 2)) = some (.int .i64 k.ad)) fun i hil => by
      obtain ⟨cs', hc, ht⟩ := hi i (by omega)
      obtain ⟨_, hlen, hat⟩ := World.cells?_some hc
      obtain ⟨z0, z1, z2, n', hx, _, g0, g1, g2⟩ := trod_struct3 Tryz.underlying100 ht
      match cs', hlen with
      | [c0, c1, c2], _ =>
        have k0 : Tryz.prog.cellsOf 3 = 1 := by kernel_rfl
        simp only [k0, List.drop_zero, List.take_succ_cons, List.take_zero] at g0
        simp only [k0, List.drop_succ_cons, List.drop_zero, List.take_succ_cons, List.take_zero] at g1
        simp only [k0, List.drop_succ_cons, List.drop_zero, List.take_succ_cons, List.take_zero] at g2
        obtain ⟨fr, e0, _⟩ := DataW.trod_int Tryz.underlying3 g0
        obtain ⟨to, e1, _⟩ := DataW.trod_int Tryz.underlying3 g1
        obtain ⟨ad, e2, _⟩ := DataW.trod_int Tryz.underlying3 g2
        simp only [List.cons.injEq, and_true] at e0 e1 e2
        subst e0 e1 e2
        refine ⟨⟨fr, to, ad⟩, ?_, ?_, ?_⟩
        · have := hat 0 (by simp); simpa [Addr.add] using this
        · have := hat 1 (by simp); rw [add_add] at this; simpa using this
        · have := hat 2 (by simp); rw [add_add] at this; simpa using this
    subst hkl
    refine ⟨some a, cap, l, rfl, fun hne => ?_⟩
    have h0 := (hk 0 (List.length_pos_iff.2 hne)).1
    simp only [Nat.zero_mul] at h0
    have e0 : a.add 0 = a := rfl
    rw [e0] at h0
    obtain ⟨hsp, hbl⟩ := cell_spot h0
    obtain ⟨b, off, sp⟩ := a
    subst hsp
    refine ⟨b, off, rfl, hbl, fun i hi => ?_⟩
    obtain ⟨h1, h2, h3⟩ := hk i hi
    rw [add3] at h1 h2 h3
    rw [← nthS_eq hi] at h1 h2 h3
    exact ⟨absH_rd h1 rfl, absH_rd h2 rfl, absH_rd h3 rfl, trivial⟩
set_option maxRecDepth 100000 in
theorem open_water {v : Value} {d : DataW H} {p : List MemPlace} (hsp : ∀ b, spare b = true) (hv : Value.okWide Tryz.prog W r b0 25 v) (h : DataW.Trod enc Tryz.prog W base spare held 25 v d p) :
    ∃ (lv : Int) (A1 A2 : Option Addr) (c1 c2 : Nat) (l : List Cw) (ss : List Sh), v = .agg #[.int .i64 lv, .slice A1 l.length c1, .slice A2 ss.length c2] ∧ SlOk W A1 l.length c1 ∧ SlOk W A2 ss.length c2 ∧ l.length ≤ maxLen ∧ (l ≠ [] → ∃ b off, A1 = some ⟨b, off, none⟩ ∧ b < W.heap.size ∧ CyH (absH W) b off l) ∧ (ss ≠ [] → ∃ b off, A2 = some ⟨b, off, none⟩ ∧ b < W.heap.size ∧ ShH (absH W) b off ss) := by
  obtain ⟨v0, v1, v2, y0, y1, y2, k, rfl, _, _, h0, h1, h2⟩ := Joins.open_agg3 Tryz.underlying25 (by kernel_rfl) (by kernel_rfl) hv h
  obtain ⟨lv, e0, _⟩ := DataW.trod_int Tryz.underlying3 h0
  obtain ⟨A1, c1, l, e1, hl, hk1⟩ := open_cycles hsp h1
  obtain ⟨A2, c2, ss, e2, hk2⟩ := open_shifts h2
  simp only [List.cons.injEq, and_true] at e0 e1 e2
  subst e0 e1 e2
  exact ⟨lv, A1, A2, c1, c2, l, ss, rfl, slOk_of Tryz.underlying22 (field_ok (i := 1) (ts := [3, 22, 23]) Tryz.underlying25 (by kernel_rfl) rfl rfl hv), slOk_of Tryz.underlying23 (field_ok (i := 2) (ts := [3, 22, 23]) Tryz.underlying25 (by kernel_rfl) rfl rfl hv), hl, hk1, hk2⟩
end
theorem cy_abs {w : World} {A : Option Addr} {c : Nat} {l : List Cw} (hA : SlOk w A l.length c) (hk : l ≠ [] → ∃ b off, A = some ⟨b, off, none⟩ ∧ b < w.heap.size ∧ CyH (absH w) b off l) : ∃ cv, CyV (absH w) cv l ∧ VR (idE w.heap.size) cv (.slice A l.length c) := by
  rcases hA with ⟨rfl, h0, rfl⟩ | ⟨b, off, rfl, C, t, fr, hC⟩
  · have : l = [] := List.length_eq_zero_iff.1 h0
    subst this
    exact ⟨.slice0, .inl ⟨.inl rfl, rfl⟩, by simp [VR]⟩
  · have hb := (Array.getElem?_eq_some_iff.1 hC).1
    refine ⟨.slice b off l.length (.k c), .inr ⟨b, off, .k c, rfl, fun i hi => ?_⟩, by simp only [VR]; exact ⟨b, 0, if_pos hb, rfl⟩⟩
    obtain ⟨b', off', e, hb', hc⟩ := hk (by intro h; subst h; simp at hi)
    cases e
    exact hc i hi
theorem sh_abs {w : World} {A : Option Addr} {c : Nat} {l : List Sh} (hA : SlOk w A l.length c) (hk : l ≠ [] → ∃ b off, A = some ⟨b, off, none⟩ ∧ b < w.heap.size ∧ ShH (absH w) b off l) : ∃ sv, ShV (absH w) sv l ∧ VR (idE w.heap.size) sv (.slice A l.length c) := by
  rcases hA with ⟨rfl, h0, rfl⟩ | ⟨b, off, rfl, C, t, fr, hC⟩
  · have : l = [] := List.length_eq_zero_iff.1 h0
    subst this
    exact ⟨.slice0, .inl ⟨.inl rfl, rfl⟩, by simp [VR]⟩
  · have hb := (Array.getElem?_eq_some_iff.1 hC).1
    refine ⟨.slice b off l.length (.k c), .inr ⟨b, off, .k c, rfl, fun i hi => ?_⟩, by simp only [VR]; exact ⟨b, 0, if_pos hb, rfl⟩⟩
    obtain ⟨b', off', e, hb', hc⟩ := hk (by intro h; subst h; simp at hi)
    cases e
    exact hc i hi
theorem vr_agg3 {E : Env} {a b c : AV} {x y z : Value} (h1 : VR E a x) (h2 : VR E b y) (h3 : VR E c z) : VR E (.agg [a, b, c]) (.agg #[x, y, z]) := by
  simp only [VR]
  exact ⟨[x, y, z], rfl, VRs.cons h1 (VRs.cons h2 (VRs.cons h3 VRs.nil))⟩
end Go.Proofs.YtgjkfmcjalcefaaGreat
