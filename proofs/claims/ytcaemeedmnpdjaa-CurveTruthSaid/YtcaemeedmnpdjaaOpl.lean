/- An argument that is a list of curves: what it reads as. -/
import Derived.Test.YtcaemeedmnpdjaaLiftA
import Derived.Test.YtcaemeedmnpdjaaLi
namespace Go.Proofs.Ytcaemeedmnpdjaa
open Go.ChangeShapes Go.WideShapes Go.ChangeAt Go.RowKit Go.Deep Go.Proofs.Ytcaemeedmnpdjaa.Ev

/-- curves in memory, of any length -/
def CwH (h : Heap) (b off : Nat) (l : List Cv) : Prop := ∀ i (hi : i < l.length), Rds h b (off + i * 2) [l[i].kv, .int .i64 l[i].err] ∧ KnV h l[i].kv l[i].ks
theorem CwH.vw {h0 h : Heap} {V : Ob} {b off l} (k : CwH h0 b off l) (hh : Vw h0 [] V h) : CwH h b off l := fun i hi => ⟨hh.rds (by simp) (k i hi).1, (k i hi).2.vw hh⟩
theorem CwH.at_ {h : Heap} {b off l} (k : CwH h b off l) {z : Int} {n : Nat} (e : z.toNat = n) (hi : n < l.length) : Rds h b (off + z.toNat * 2) [l[n].kv, .int .i64 l[n].err] := by subst e; exact (k _ hi).1
def CwV (h : Heap) (lv : AV) (l : List Cv) : Prop := (lv = .slice0 ∧ l = []) ∨ ∃ b off c, lv = .slice b off l.length c ∧ CwH h b off l
theorem CwV.vw {h0 h : Heap} {V : Ob} {lv l} (k : CwV h0 lv l) (hh : Vw h0 [] V h) : CwV h lv l := by
  rcases k with ⟨h1, h2⟩ | ⟨b, off, c, h1, h2⟩
  · exact .inl ⟨h1, h2⟩
  · exact .inr ⟨b, off, c, h1, h2.vw hh⟩
theorem absC_slice {n b off len cap : Nat} (h : ¬ (len = 0 ∧ cap = 0)) (hb : b < n) : absC n (.slice (some ⟨b, off, none⟩) len cap) = some (.slice b off len (.k cap)) := by
  rcases len with _ | len
  · rcases cap with _ | cap
    · exact absurd ⟨rfl, rfl⟩ h
    · simp [absC, hb]
  · simp [absC, hb]
/-- what is known of a slice that lies in a cell -/
def SlIn (W : World) (A : Option Addr) (ln c : Nat) : Prop := (A = none ∧ ln = 0 ∧ c = 0) ∨ (∃ a, A = some a ∧ ln = 0 ∧ c = 0) ∨ ∃ b off, A = some ⟨b, off, none⟩ ∧ ∃ C t fr, W.heap[b]? = some (.cells C t fr)
theorem kn_cell {W : World} {A : Option Addr} {c : Nat} {ks : List (Int × Int)} (hz : SlIn W A ks.length c) (hk : KnAt W A ks) : ∃ kv, absC W.heap.size (.slice A ks.length c) = some kv ∧ KnV (absH W) kv ks := by
  rcases hz with ⟨rfl, h0, rfl⟩ | ⟨a, rfl, h0, rfl⟩ | ⟨b, off, rfl, C, t, fr, hC⟩
  · have : ks = [] := List.length_eq_zero_iff.1 h0
    subst this
    exact ⟨.slice0, rfl, .inl ⟨.inl rfl, rfl⟩⟩
  · have : ks = [] := List.length_eq_zero_iff.1 h0
    subst this
    exact ⟨.sliceZ, rfl, .inl ⟨.inr rfl, rfl⟩⟩
  · have hb := (Array.getElem?_eq_some_iff.1 hC).1
    by_cases hz : ks.length = 0 ∧ c = 0
    · obtain ⟨h0, rfl⟩ := hz
      have : ks = [] := List.length_eq_zero_iff.1 h0
      subst this
      exact ⟨.sliceZ, rfl, .inl ⟨.inr rfl, rfl⟩⟩
    · refine ⟨.slice b off ks.length (.k c), absC_slice hz hb, .inr ⟨b, off, .k c, rfl, fun i hi => ?_, hb, by unfold rowAt; rw [absH_get, hC]; rfl⟩⟩
      obtain ⟨b', off', e, hb', hc⟩ := hk (by intro h; subst h; simp at hi)
      cases e
      obtain ⟨h1, h2⟩ := hc i hi
      exact ⟨absH_rd h1 rfl, absH_rd h2 rfl, trivial⟩
section
variable {H : Type} {enc : TypeId × Value → H} {W : World} {base b0 : Nat} {spare : Nat → Bool} {held : Bool} {r : Reach}
theorem cell_obj {a : Addr} {v : Value} (h : W.cell? a = some v) : a.spot = none ∧ ∃ C t fr, W.heap[a.block]? = some (.cells C t fr) := by
  unfold World.cell? at h
  split at h
  · rename_i C t fr hb
    split at h
    · cases h
    · rename_i hs
      exact ⟨by simpa using hs, C, t, fr, hb⟩
  · cases h
/-- a slice that lies in a cell, of elements of at least one cell -/
theorem slice_info {t e : TypeId} {n : Nat} {cs : List Value} {y : DataW H × List MemPlace} (ht : Try.prog.underlying t = some (.slice e)) (hc1 : 0 < Try.prog.cellsOf e) (hs : ∀ b, spare b = true) (h : DataW.trod enc Try.prog W base spare held n t cs = some y) {A : Option Addr} {ln c : Nat} (e : cs = [.slice A ln c]) : SlIn W A ln c := by
  rcases open_slice ht h with ⟨rfl, _⟩ | ⟨a, len, cap, m, n, D, Pl, rfl, hb, hl, hm, hmm, _, hi⟩
  · simp only [List.cons.injEq, Value.slice.injEq, and_true] at e
    exact .inl ⟨e.1.symm, e.2.1.symm, e.2.2.symm⟩
  · simp only [List.cons.injEq, Value.slice.injEq, and_true] at e
    obtain ⟨e1, e2, e3⟩ := e
    by_cases h0 : cap = 0
    · exact .inr (.inl ⟨a, e1.symm, by omega, by omega⟩)
    · have hm' : 0 < m := by rw [hmm, hs]; simp; omega
      obtain ⟨cs', hc, _⟩ := hi 0 hm'
      obtain ⟨_, hlen, hat⟩ := World.cells?_some hc
      have h1 := hat 0 (by omega)
      simp only [Nat.zero_mul] at h1
      have e0 : a.add 0 = a := rfl
      rw [e0, e0, List.getElem?_eq_getElem (by omega)] at h1
      obtain ⟨hsp, C, t, fr, hC⟩ := cell_obj h1
      obtain ⟨b, off, sp⟩ := a
      subst hsp
      exact .inr (.inr ⟨b, off, e1.symm, C, t, fr, hC⟩)
set_option maxRecDepth 100000 in
/-- two cells -/
theorem open_two {t : TypeId} {f0 f1 : Field} (hs : Try.prog.underlying t = some (.struct #[f0, f1])) (hone : oneCellFields Try.prog #[f0, f1] = true) {n : Nat} {cs : List Value} {y : DataW H × List MemPlace} (h : DataW.trod enc Try.prog W base spare held n t cs = some y) (hl : cs.length = 2) :
    ∃ c0 c1 n y0 y1, cs = [c0, c1] ∧ DataW.trod enc Try.prog W base spare held n f0.type [c0] = some y0 ∧ DataW.trod enc Try.prog W base spare held n f1.type [c1] = some y1 := by
  obtain ⟨y0, y1, n, hx, _, g0, g1⟩ := trod_struct2 hs h
  obtain ⟨o0, k0⟩ := hone_of hone 0 f0 rfl
  obtain ⟨o1, k1⟩ := hone_of hone 1 f1 rfl
  match cs, hl with
  | [c0, c1], _ =>
    rw [o0, k0] at g0
    rw [o1, k1] at g1
    exact ⟨c0, c1, n, y0, y1, rfl, g0, g1⟩
set_option maxRecDepth 100000 in
theorem open_curves {n : Nat} {cs : List Value} {y : DataW H × List MemPlace} (hs : ∀ b, spare b = true) (h : DataW.trod enc Try.prog W base spare held n 66 cs = some y) :
    ∃ (A : Option Addr) (c : Nat) (l : List Cv), cs = [.slice A l.length c] ∧ l.length ≤ maxLen ∧ (l ≠ [] → ∃ b off, A = some ⟨b, off, none⟩ ∧ b < W.heap.size ∧ CwH (absH W) b off l) := by
  rcases open_slice Try.underlying66 h with ⟨rfl, _⟩ | ⟨a, len, cap, m, n, D, Pl, rfl, hb, hl, hm, hmm, _, hi⟩
  · exact ⟨none, 0, [], rfl, by simp, fun hne => absurd rfl hne⟩
  · have hC : Try.prog.cellsOf 33 = 2 := by kernel_rfl
    rw [hC] at hi
    have hlm : len ≤ m := by rw [hmm]; split <;> omega
    obtain ⟨l, hkl, hk⟩ := ex_list (n := len) (p := fun i (k : Cv) => ∃ V, W.cell? (a.add (i * 2)) = some V ∧ absC W.heap.size V = some k.kv ∧ W.cell? (a.add (i * 2 + 1)) = some (.int .i64 k.err) ∧ KnV (absH W) k.kv k.ks) fun i hil => by
      obtain ⟨cs', hc, ht⟩ := hi i (by omega)
      obtain ⟨_, hlen, hat⟩ := World.cells?_some hc
      obtain ⟨c0, c1, n', y0, y1, rfl, g0, g1⟩ := open_two Try.underlying33 (by kernel_rfl) ht hlen
      obtain ⟨A, c, ks, e0, hk, _⟩ := open_knots g0
      obtain ⟨err, e1, _⟩ := DataW.trod_int Try.underlying3 g1
      have hz := slice_info Try.underlying31 (of_decide_eq_true (by kernel_rfl)) hs g0 e0
      simp only [List.cons.injEq, and_true] at e0 e1
      subst e0 e1
      obtain ⟨kv, q1, q2⟩ := kn_cell hz hk
      refine ⟨⟨kv, ks, err⟩, _, ?_, q1, ?_, q2⟩
      · have := hat 0 (by omega); simpa [Addr.add] using this
      · have := hat 1 (by omega)
        rw [add_add] at this
        simpa using this
    subst hkl
    refine ⟨some a, cap, l, rfl, by omega, fun hne => ?_⟩
    obtain ⟨V, h0, _⟩ := hk 0 (List.length_pos_iff.2 hne)
    simp only [Nat.zero_mul] at h0
    have e0 : a.add 0 = a := rfl
    rw [e0] at h0
    obtain ⟨hsp, hbl⟩ := cell_spot h0
    obtain ⟨b, off, sp⟩ := a
    subst hsp
    refine ⟨b, off, rfl, hbl, fun i hi => ?_⟩
    obtain ⟨V, h1, h2, h3, h4⟩ := hk i hi
    have e1 : (⟨b, off, none⟩ : Addr).add (i * 2) = ⟨b, off + i * 2, none⟩ := by unfold Addr.add; split <;> simp_all
    have e2 : (⟨b, off, none⟩ : Addr).add (i * 2 + 1) = ⟨b, off + i * 2 + 1, none⟩ := by unfold Addr.add; split <;> simp_all [Nat.add_assoc]
    rw [e1] at h1
    rw [e2] at h3
    exact ⟨⟨absH_rd h1 h2, absH_rd h3 rfl, trivial⟩, h4⟩
set_option maxRecDepth 100000 in
theorem cell_ok {t e : TypeId} {v : Value} (ht : Try.prog.underlying t = some (.slice e)) (h : Value.okWide Try.prog W r b0 t v) : Cell.okWide Try.prog W r b0 t v := by
  unfold Value.okWide at h
  rw [ht] at h
  exact h
end
/-- a list of curves, as the calculator has it -/
theorem cv_abs {w : World} {A : Option Addr} {c : Nat} {l : List Cv} (hA : SlOk w A l.length c) (hk : l ≠ [] → ∃ b off, A = some ⟨b, off, none⟩ ∧ b < w.heap.size ∧ CwH (absH w) b off l) : ∃ lv, CwV (absH w) lv l ∧ VR (idE w.heap.size) lv (.slice A l.length c) := by
  rcases hA with ⟨rfl, h0, rfl⟩ | ⟨b, off, rfl, C, t, fr, hC⟩
  · have : l = [] := List.length_eq_zero_iff.1 h0
    subst this
    exact ⟨.slice0, .inl ⟨rfl, rfl⟩, by simp [VR]⟩
  · have hb := (Array.getElem?_eq_some_iff.1 hC).1
    refine ⟨.slice b off l.length (.k c), .inr ⟨b, off, .k c, rfl, fun i hi => ?_⟩, by simp only [VR]; exact ⟨b, 0, if_pos hb, rfl⟩⟩
    obtain ⟨b', off', e, hb', hc⟩ := hk (by intro h; subst h; simp at hi)
    cases e
    exact hc i hi
end Go.Proofs.Ytcaemeedmnpdjaa
